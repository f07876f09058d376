/-
  Statement PacketBack (chapter 8): what is built is read again; a turned byte; a text that is a packet.
-/
import Derived.Test.YtlbaockipeojhaaLift
import Derived.Test.YtlbaockipeojhaaPkShown
import Derived.Test.YtlbaockipeojhaaAll
import Derived.Test.YtlbaockipeojhaaPkArgs
import Derived.Test.YtlbaockipeojhaaPparse
import Derived.Test.YtlbaockipeojhaaPkBuild
import Derived.BigQuiet
namespace Go.Proofs.Ytlbaockipeojhaa.packetBack
open Go.ChangeShapes Go.WideShapes Go.ChangeAt Go.RowKit
set_option linter.unusedVariables false

set_option linter.unusedSimpArgs false
set_option maxRecDepth 100000
theorem fit_of {l : List Cv} {L : List Ck} (h : ckV l = L) (hL : ∀ c ∈ L, FitC c) : ∀ x ∈ l, FitC x.c := fun x hx => hL _ (by rw [← h]; exact List.mem_map_of_mem hx)
theorem len_ok {l : List Cv} {L : List Ck} (h : ckV l = L) (hL : L.length ≤ 100000) : l.length ≤ 100000 := by rw [← h, ckV_length] at hL; exact hL
theorem refK {f t g : Nat} {L : List Ck} (hfit : ∀ c ∈ L, FitC c) (hlen : L.length ≤ 100000) {V : Value} {l : List Cv} (hc : ckV l = L) {w : World} (h : Rk w V l) (W : World) (hW : Below w.heap.size w W) :
    Calls Try.prog 11 #[.agg (cellsP f t g V)] W fun e w' => ∃ A' k' l', e = .returned (.agg (cellsP f t g (.slice A' l'.length k'))) ∧ Rk w' (.slice A' l'.length k') l' ∧ ckV l' = L ∧ Below W.heap.size W w' := by
  refine (ref_any f t g V l (len_ok hc hlen) (fun x hx => (fit_of hc hfit x hx).il) W (h.below hW)).mono ?_
  rintro _ w' ⟨V', l', rfl, hk, hck, hb⟩
  obtain ⟨A', k', rfl, -⟩ := hk.slice
  exact ⟨A', k', l', rfl, hk, hck.trans hc, hb⟩
theorem sameK {f t g : Nat} {L : List Ck} (hfit : ∀ c ∈ L, FitC c) (hlen : L.length ≤ 100000) (W : World) (V V' : Value) (l l' : List Cv) (h : Rk W V l) (hc : ckV l = L) (h' : Rk W V' l') (hc' : ckV l' = L) :
    Calls Try.prog 10 #[.agg (cellsP f t g V), .agg (cellsP f t g V')] W fun e w' => e = .returned (.bool true) ∧ Below W.heap.size W w' :=
  psame_any f t g V V' l l' (len_ok hc hlen) (hc.trans hc'.symm) (fun x hx => by
    have := fit_of hc hfit x hx
    exact ⟨Nat.le_trans this.gl (by omega), Nat.le_trans this.dl (by omega), this.il⟩) W h h'
theorem right_none {f t g : Nat} (hf : f = 0) (ht : t = 0) (hg : g = 0) (V : Value) (l : List Cv) (hl : l.length = 0) (W : World) (h : Rk W V l) :
    Calls Try.prog 12 #[.agg (cellsP f t g V)] W fun e w' => e = .returned (.bool false) ∧ Below W.heap.size W w' := by
  obtain rfl := List.eq_nil_of_length_eq_zero hl
  have h1 := pright_any f t g (by omega) (by omega) (by omega) V [] (by simp) (by simp) W h
  rw [buildP_form (show formedP f t g [] = false from rfl)] at h1
  exact h1
/-- What is read of a text that is none, and of one that is a packet. -/
theorem parse_bad (s : ByteArray) : (parseP s).2 ≠ 0 → (parseP s).1.f = 0 ∧ (parseP s).1.t = 0 ∧ (parseP s).1.g = 0 ∧ (parseP s).1.l = [] := fun h => by
  rw [parseP_err h]; exact ⟨rfl, rfl, rfl, rfl⟩
theorem parse_good (s : ByteArray) (hs : s.size ≤ 2000) : (parseP s).2 = 0 → (parseP s).1.f < 65536 ∧ (parseP s).1.t < 65536 ∧ (parseP s).1.g < 4294967296 ∧ (∀ c ∈ (parseP s).1.l, FitC c) ∧ (parseP s).1.l.length ≤ 100000 ∧
    (buildP ⟨(parseP s).1.f, (parseP s).1.t, (parseP s).1.g, (parseP s).1.l⟩).2 = 0 ∧ parseP (buildP ⟨(parseP s).1.f, (parseP s).1.t, (parseP s).1.g, (parseP s).1.l⟩).1 = (⟨(parseP s).1.f, (parseP s).1.t, (parseP s).1.g, (parseP s).1.l⟩, 0) ∧ (buildP ⟨(parseP s).1.f, (parseP s).1.t, (parseP s).1.g, (parseP s).1.l⟩).1.size ≤ 1500 := fun h => by
  obtain ⟨h1, h2, h3, h4, h5, h6⟩ := parseP_ok h
  have hl : (readP s).l.length ≤ 100000 := by
    have := walkC_len s.size [] (cutB s 12)
    have h7 := cut_size s 12
    show (walkC s.size [] (cutB s 12)).1.length ≤ 100000
    have h8 : ([] : List Ck).length = 0 := rfl
    omega
  rw [h3]
  refine ⟨h5.f, h5.t, h5.g, fun c hc => fit_ok (h5.l c hc) (rightC_true.1 (buildP_ok h4).2.1 c hc), hl, h4, packet_back h5 h4, (packed_size h4).2.1⟩
theorem built_again {f t g : Nat} (hf : f < 65536) (ht : t < 65536) (hg : g < 4294967296) {L : List Ck} (hw : ∀ c ∈ L, WfC c) (h : (buildP ⟨f, t, g, L⟩).2 = 0) :
    parseP (buildP ⟨f, t, g, L⟩).1 = (⟨f, t, g, L⟩, 0) ∧ 12 ≤ (buildP ⟨f, t, g, L⟩).1.size ∧ (buildP ⟨f, t, g, L⟩).1.size ≤ 1500 ∧
    ∀ (q : ByteArray) (i : Nat) (hi : i < (buildP ⟨f, t, g, L⟩).1.data.toList.length) (x : UInt8), x ≠ (buildP ⟨f, t, g, L⟩).1.data.toList[i] → q.data.toList = (buildP ⟨f, t, g, L⟩).1.data.toList.set i x → parseP q = (zeroP, 5) :=
  ⟨packet_back ⟨hf, ht, hg, hw⟩ h, (packed_size h).2.2, (packed_size h).2.1, fun q i hi x hx hq => packet_turned h hi x hx hq⟩
/-- Two packets lie in variables. -/
structure KnS (n1 n2 f t g f' t' g' : Nat) (V V' : Value) (w : World) : Prop where
  own : w.heap[n1]? = some (.cells (cellsP f t g V) 26 (0, 0))
  out : w.heap[n2]? = some (.cells (cellsP f' t' g' V') 26 (0, 0))
theorem KnS.c {n1 n2 f t g f' t' g' : Nat} {V V' : Value} {w W : World} (h : KnS n1 n2 f t g f' t' g' V V' w) (hb : Below w.heap.size w W) :
    W.cell? ⟨n1, 0, none⟩ = some (.int .u16 (f : Int)) ∧ W.cell? ⟨n1, 1, none⟩ = some (.int .u16 (t : Int)) ∧ W.cell? ⟨n1, 2, none⟩ = some (.int .u32 (g : Int)) ∧ W.cell? ⟨n1, 3, none⟩ = some V ∧
    W.cell? ⟨n2, 0, none⟩ = some (.int .u16 (f' : Int)) ∧ W.cell? ⟨n2, 1, none⟩ = some (.int .u16 (t' : Int)) ∧ W.cell? ⟨n2, 2, none⟩ = some (.int .u32 (g' : Int)) ∧ W.cell? ⟨n2, 3, none⟩ = some V' := by
  have h1 := (hb.block _ (Array.getElem?_eq_some_iff.1 h.own).1).trans h.own
  have h2 := (hb.block _ (Array.getElem?_eq_some_iff.1 h.out).1).trans h.out
  refine ⟨?_, ?_, ?_, ?_, ?_, ?_, ?_, ?_⟩ <;> (first | (rw [cell_in h1]; rfl) | (rw [cell_in h2]; rfl))
theorem KnS.made {n1 f t g f' t' g' : Nat} {V : Value} {w : World} (h : w.heap[n1]? = some (.cells (cellsP f t g V) 26 (0, 0))) (V' : Value) : KnS n1 w.heap.size f t g f' t' g' V V' (w.alloc (.cells (cellsP f' t' g' V') 26)) :=
  ⟨(((Below.refl w.heap.size w).alloc (Nat.le_refl _) _).block _ (Array.getElem?_eq_some_iff.1 h).1).trans h, heap_alloc_new _ _⟩
set_option maxHeartbeats 16000000 in
theorem walk (f t g : Nat) (V : Value) (l : List Cv) (w : World) (hi : InP w f t g V l) (a : Int) (ha1 : -9223372036854775808 ≤ a) (ha2 : a ≤ 9223372036854775807) (x : Nat) (hx : x < 256) (s : ByteArray) (hs : s.size ≤ maxLen) :
    Calls Try.prog 3 #[.agg (cellsP f t g V), .int .i64 a, .int .u8 (x : Int), .string s] w fun e w' => e = .returned (.bool true) ∧ Below w.heap.size w w' := by
  have HT := Lib.hid (hdS_new f t g V w)
  have HSM := Lib.hid (fun W hb => psmall_any l hi.len V W (hi.row.below hb) (hi.all.below hb))
  have HGV := Lib.hid (fun h => smallP_gives h hi.all)
  have HK := Lib.hid (rk_of_in hi.row hi.all)
  have HIN := Lib.hid (And.intro hi.f (And.intro hi.t hi.g))
  obtain ⟨A, cap, rfl, hcap, hmax, hcells⟩ := hi.row
  clear hcells hi
  dsimp only [cellsP] at *
  by_cases hsm : smallP l = true ∧ s.size ≤ 2000
  case neg =>
    have HX := Lib.hid hsm
    generalize smallP l = q at *
    cases q
    all_goals
      (try (have hz : decide ((2000 : Int) < (s.size : Int)) = true := by have := HX.out; simp at this; exact decide_eq_true (by omega)))
      clear HX hsm
      go_enter Try.func3, Try.ntmps3
      go_wp2_with fail
      refine (shown_any _).mono ?_
      rintro _ w1 ⟨rfl, hb1⟩
      replace HT := Lib.hid (HT.out.later hb1)
      have c3 := HT.out.c3
      clear hb1
      go_wp2_with fail
      refine (HSM.out _ HT.out.below).mono ?_
      rintro _ w2 ⟨rfl, hb2⟩
      have HB2 := Lib.hid (HT.out.below.trans (hb2.mono HT.out.below.size))
      clear hb2 c3
      go_wp2_with fail
      go_ret
      exact ⟨rfl, HB2.out⟩
  obtain ⟨hq, hs2⟩ := hsm
  rw [hq] at HSM
  obtain ⟨h60, hfit⟩ := HGV.out hq
  have zs : decide ((2000 : Int) < (s.size : Int)) = false := decide_eq_false (by omega)
  have HPT := Lib.hid (fun W => pparse_any s (by omega) W)
  have HPE := Lib.hid (parse_bad s)
  have HPO := Lib.hid (parse_good s hs2)
  generalize hP : parseP s = P at *
  obtain ⟨⟨f3, t3, g3, L3⟩, e3⟩ := P
  dsimp only at HPT HPE HPO
  have HBU := Lib.hid (fun W hb => pbuild_any f t g HIN.out.1 HIN.out.2.1 HIN.out.2.2 (.slice A l.length cap) l (by omega) hfit W (HK.out.below hb))
  have HFIT := Lib.hid (show ∀ c ∈ ckV l, FitC c from fun c hc => by obtain ⟨y, hy, e⟩ := List.mem_map.1 hc; rw [← e]; exact hfit y hy)
  have HLEN := Lib.hid (show (ckV l).length ≤ 100000 from by rw [ckV_length]; omega)
  have HRT := Lib.hid (fun W hb => pright_any f t g HIN.out.1 HIN.out.2.1 HIN.out.2.2 (.slice A l.length cap) l (by omega) hfit W (HK.out.below hb))
  have HBA := Lib.hid (built_again HIN.out.1 HIN.out.2.1 HIN.out.2.2 (L := ckV l) (fun c hc => (HFIT.out c hc).wf))
  clear hfit h60 HGV hq hP hs hs2
  go_enter Try.func3, Try.ntmps3
  go_wp2_with fail
  refine (shown_any _).mono ?_
  rintro _ w1 ⟨rfl, hb1⟩
  replace HT := Lib.hid (HT.out.later hb1)
  have c3 := HT.out.c3
  clear hb1
  go_wp2_with fail
  refine (HSM.out _ HT.out.below).mono ?_
  rintro _ w2 ⟨rfl, hb2⟩
  replace HT := Lib.hid (HT.out.later hb2)
  clear hb2 c3 HSM
  have d0 := HT.out.c0
  have d1 := HT.out.c1
  have d2 := HT.out.c2
  have d3 := HT.out.c3
  by_cases hok : (buildP ⟨f, t, g, ckV l⟩).2 = 0
  case neg =>
    have z : (((buildP ⟨f, t, g, ckV l⟩).2 : Nat) : Int) ≠ 0 := by omega
    have z' : ((((buildP ⟨f, t, g, ckV l⟩).2 : Nat) : Int) == 0) = false := beq_eq_false_iff_ne.2 z
    clear hok HBA HRT
    generalize buildP ⟨f, t, g, ckV l⟩ = R at *
    obtain ⟨rs, re⟩ := R
    dsimp only at HBU z z'
    go_wp2_with fail
    refine (HBU.out _ HT.out.below).mono ?_
    rintro _ w3 ⟨rfl, hb3⟩
    have HB0 := Lib.hid (HT.out.below.trans (hb3.mono HT.out.below.size))
    clear hb3 d0 d1 d2 d3 z HT HBU HK HFIT HLEN
    go_wp2_with fail
    refine (HPT.out _).mono ?_
    rintro _ wp ⟨V3, l3, rfl, hk3, hc3, hb3⟩
    have HBP := Lib.hid (HB0.out.trans (hb3.mono HB0.out.size))
    obtain ⟨A3, k3, rfl, -⟩ := hk3.slice
    have HK3 := Lib.hid hk3
    have HC3 := Lib.hid hc3
    have HKO : Hid ((wp.alloc (.cells #[.int .u16 (f3 : Int), .int .u16 (t3 : Int), .int .u32 (g3 : Int), .slice A3 l3.length k3] 26)).heap[wp.heap.size]? = some (.cells #[.int .u16 (f3 : Int), .int .u16 (t3 : Int), .int .u32 (g3 : Int), .slice A3 l3.length k3] 26 (0, 0))) := Lib.hid (heap_alloc_new _ _)
    have HKB := Lib.hid ((Below.refl wp.heap.size wp).alloc (Nat.le_refl _) (.cells #[.int .u16 (f3 : Int), .int .u16 (t3 : Int), .int .u32 (g3 : Int), .slice A3 l3.length k3] 26))
    have c0 : (wp.alloc (.cells #[.int .u16 (f3 : Int), .int .u16 (t3 : Int), .int .u32 (g3 : Int), .slice A3 l3.length k3] 26)).cell? ⟨wp.heap.size, 0, none⟩ = some (.int .u16 (f3 : Int)) := by rw [cell_in HKO.out]; rfl
    have c1 : (wp.alloc (.cells #[.int .u16 (f3 : Int), .int .u16 (t3 : Int), .int .u32 (g3 : Int), .slice A3 l3.length k3] 26)).cell? ⟨wp.heap.size, 1, none⟩ = some (.int .u16 (t3 : Int)) := by rw [cell_in HKO.out]; rfl
    have c2 : (wp.alloc (.cells #[.int .u16 (f3 : Int), .int .u16 (t3 : Int), .int .u32 (g3 : Int), .slice A3 l3.length k3] 26)).cell? ⟨wp.heap.size, 2, none⟩ = some (.int .u32 (g3 : Int)) := by rw [cell_in HKO.out]; rfl
    have c3 : (wp.alloc (.cells #[.int .u16 (f3 : Int), .int .u16 (t3 : Int), .int .u32 (g3 : Int), .slice A3 l3.length k3] 26)).cell? ⟨wp.heap.size, 3, none⟩ = some (.slice A3 l3.length k3) := by rw [cell_in HKO.out]; rfl
    clear hk3 hc3 hb3 HB0 HPT
    by_cases he3 : e3 = 0
    case neg =>
      obtain ⟨hf3, ht3, hg3, hL3⟩ := HPE.out he3
      have hl3 : l3.length = 0 := by have := congrArg List.length HC3.out; rw [ckV_length, hL3] at this; exact this
      have z1 : ((e3 : Int) != 0) = true := bne_iff_ne.2 (by omega)
      have z2 : ((l3.length : Int) == 0) = true := beq_iff_eq.2 (by omega)
      have HRZ := Lib.hid (fun W hW => right_none hf3 ht3 hg3 (.slice A3 l3.length k3) l3 hl3 W (HK3.out.below hW))
      clear hl3 hL3 hf3 ht3 hg3 he3 HPE HPO HC3 HK3
      dsimp only [cellsP] at *
      go_wp2_with fail
      refine (HRZ.out _ HKB.out).mono ?_
      rintro _ wr ⟨rfl, hbr⟩
      have HBR := Lib.hid (HBP.out.trans ((HKB.out.trans (hbr.mono HKB.out.size)).mono HBP.out.size))
      clear hbr
      go_wp2_with fail
      go_ret
      exact ⟨rfl, HBR.out⟩
    obtain ⟨hf3, ht3, hg3, hfit3, hlen3, hok3, hbk3, hsz3⟩ := HPO.out he3
    have z1 : ((e3 : Int) != 0) = false := by rw [he3]; rfl
    have HB3 := Lib.hid (fun W hW => pbuild_any f3 t3 g3 hf3 ht3 hg3 (.slice A3 l3.length k3) l3 (len_ok HC3.out hlen3) (fit_of HC3.out hfit3) W (HK3.out.below hW))
    rw [HC3.out] at HB3
    have HP4 := Lib.hid (fun W => pparse_any (buildP ⟨f3, t3, g3, L3⟩).1 (by omega) W)
    rw [hbk3] at HP4
    dsimp only at HP4
    rw [hok3] at HB3
    have HFIT3 := Lib.hid hfit3
    have HLEN3 := Lib.hid hlen3
    generalize (buildP ⟨f3, t3, g3, L3⟩).1 = B3 at *
    clear hf3 ht3 hg3 hfit3 hlen3 hok3 hbk3 hsz3 HPE HPO he3
    dsimp only [cellsP] at *
    go_wp2_with fail
    refine (HB3.out _ HKB.out).mono ?_
    rintro _ wb ⟨rfl, hbb⟩
    have HKB2 := Lib.hid (HKB.out.trans (hbb.mono HKB.out.size))
    clear c0 c1 c2 c3
    have hown : wb.heap[wp.heap.size]? = some (.cells #[.int .u16 (f3 : Int), .int .u16 (t3 : Int), .int .u32 (g3 : Int), .slice A3 l3.length k3] 26 (0, 0)) := (hbb.block _ (Array.getElem?_eq_some_iff.1 HKO.out).1).trans HKO.out
    have HO2 := Lib.hid hown
    clear hbb hown HKO HKB HB3
    go_wp2_with fail
    refine (HP4.out _).mono ?_
    rintro _ wx ⟨V4, l4, rfl, hk4, hc4, hb4⟩
    obtain ⟨A4, k4, rfl, -⟩ := hk4.slice
    have HKB4 := Lib.hid (HKB2.out.trans (hb4.mono HKB2.out.size))
    have hown := (hb4.block _ (Array.getElem?_eq_some_iff.1 HO2.out).1).trans HO2.out
    have HKN := Lib.hid (KnS.made hown (f' := f3) (t' := t3) (g' := g3) (.slice A4 l4.length k4))
    have hbn := (Below.refl wx.heap.size wx).alloc (Nat.le_refl _) (.cells (cellsP f3 t3 g3 (.slice A4 l4.length k4)) 26)
    have HR1 := Lib.hid (refK (f := f3) (t := t3) (g := g3) HFIT3.out HLEN3.out HC3.out (HK3.out.below (HKB4.out.trans (hbn.mono HKB4.out.size))))
    have HR2 := Lib.hid (refK (f := f3) (t := t3) (g := g3) HFIT3.out HLEN3.out hc4 (hk4.below hbn))
    have HSA := Lib.hid (sameK (f := f3) (t := t3) (g := g3) HFIT3.out HLEN3.out)
    have HBN := Lib.hid (HBP.out.trans (((HKB4.out.trans (hbn.mono HKB4.out.size))).mono HBP.out.size))
    clear hk4 hc4 hb4 hown hbn HKB2 HO2 HK3 HC3 HFIT3 HLEN3 HKB4 HP4 HBP
    dsimp only [cellsP] at *
    go_wp2_with fail
    generalize wx.alloc (.cells #[.int .u16 (f3 : Int), .int .u16 (t3 : Int), .int .u32 (g3 : Int), .slice A4 l4.length k4] 26) = wq at *
    refine wp_region_noPanic ?_
    refine wp_region_held_drew (S := (Below wq.heap.size wq)) (by kernel_rfl) ?_ (fun hHeld => ?_)
    · exact (Below.refl _ _).drew
    refine wpAnyH_take (i := 0) (v := ?_) (by simp only [List.getElem?_toArray, List.getElem?_cons_zero]; rfl) (by kernel_rfl) (by kernel_rfl) (by kernel_rfl) (fun _ _ _ h => h) (Or.inl ⟨by rfl, ?_⟩) (by assumption) ?_
    rotate_left 1
    · (intro w' hSw; obtain ⟨c0, c1, c2, c3, d0, d1, d2, d3⟩ := HKN.out.c hSw; clear hSw; go_simp; try with_reducible rfl)
    try simp only [Act.put, List.setIfInBounds_toArray, List.set_cons_zero, List.set_cons_succ]
    refine wpAnyH_take (i := 1) (v := ?_) (by simp only [List.getElem?_toArray, List.getElem?_cons_succ, List.getElem?_cons_zero]; rfl) (by kernel_rfl) (by kernel_rfl) (by kernel_rfl) (fun _ _ _ h => h) (Or.inl ⟨by rfl, ?_⟩) (by assumption) ?_
    rotate_left 1
    · (intro w' hSw; obtain ⟨c0, c1, c2, c3, d0, d1, d2, d3⟩ := HKN.out.c hSw; clear hSw; go_simp; try with_reducible rfl)
    try simp only [Act.put, List.setIfInBounds_toArray, List.set_cons_zero, List.set_cons_succ]
    refine wpAnyH_take (i := 2) (v := ?_) (by simp only [List.getElem?_toArray, List.getElem?_cons_succ, List.getElem?_cons_zero]; rfl) (by kernel_rfl) (by kernel_rfl) (by kernel_rfl) (fun _ _ _ h => h) (Or.inl ⟨by rfl, ?_⟩) (by assumption) ?_
    rotate_left 1
    · (intro w' hSw; obtain ⟨c0, c1, c2, c3, d0, d1, d2, d3⟩ := HKN.out.c hSw; clear hSw; go_simp; try with_reducible rfl)
    try simp only [Act.put, List.setIfInBounds_toArray, List.set_cons_zero, List.set_cons_succ]
    refine wpAnyH_take (i := 3) (v := ?_) (by simp only [List.getElem?_toArray, List.getElem?_cons_succ, List.getElem?_cons_zero]; rfl) (by kernel_rfl) (by kernel_rfl) (by kernel_rfl) (fun _ _ _ h => h) (Or.inl ⟨by rfl, ?_⟩) (by assumption) ?_
    rotate_left 1
    · (intro w' hSw; obtain ⟨c0, c1, c2, c3, d0, d1, d2, d3⟩ := HKN.out.c hSw; clear hSw; go_simp; try with_reducible rfl)
    try simp only [Act.put, List.setIfInBounds_toArray, List.set_cons_zero, List.set_cons_succ]
    refine wpAnyH_take (i := 4) (v := ?_) (by simp only [List.getElem?_toArray, List.getElem?_cons_succ, List.getElem?_cons_zero]; rfl) (by kernel_rfl) (by kernel_rfl) (by kernel_rfl) (fun _ _ _ h => h) (Or.inl ⟨by rfl, ?_⟩) (by assumption) ?_
    rotate_left 1
    · (intro w' hSw; obtain ⟨c0, c1, c2, c3, d0, d1, d2, d3⟩ := HKN.out.c hSw; clear hSw; go_simp; try with_reducible rfl)
    try simp only [Act.put, List.setIfInBounds_toArray, List.set_cons_zero, List.set_cons_succ]
    refine wpAnyH_take (i := 5) (v := ?_) (by simp only [List.getElem?_toArray, List.getElem?_cons_succ, List.getElem?_cons_zero]; rfl) (by kernel_rfl) (by kernel_rfl) (by kernel_rfl) (fun _ _ _ h => h) (Or.inl ⟨by rfl, ?_⟩) (by assumption) ?_
    rotate_left 1
    · (intro w' hSw; obtain ⟨c0, c1, c2, c3, d0, d1, d2, d3⟩ := HKN.out.c hSw; clear hSw; go_simp; try with_reducible rfl)
    try simp only [Act.put, List.setIfInBounds_toArray, List.set_cons_zero, List.set_cons_succ]
    refine wpAnyH_take (i := 6) (v := ?_) (by simp only [List.getElem?_toArray, List.getElem?_cons_succ, List.getElem?_cons_zero]; rfl) (by kernel_rfl) (by kernel_rfl) (by kernel_rfl) (fun _ _ _ h => h) (Or.inl ⟨by rfl, ?_⟩) (by assumption) ?_
    rotate_left 1
    · (intro w' hSw; obtain ⟨c0, c1, c2, c3, d0, d1, d2, d3⟩ := HKN.out.c hSw; clear hSw; go_simp; try with_reducible rfl)
    try simp only [Act.put, List.setIfInBounds_toArray, List.set_cons_zero, List.set_cons_succ]
    refine wpAnyH_take (i := 7) (v := ?_) (by simp only [List.getElem?_toArray, List.getElem?_cons_succ, List.getElem?_cons_zero]; rfl) (by kernel_rfl) (by kernel_rfl) (by kernel_rfl) (fun _ _ _ h => h) (Or.inl ⟨by rfl, ?_⟩) (by assumption) ?_
    rotate_left 1
    · (intro w' hSw; obtain ⟨c0, c1, c2, c3, d0, d1, d2, d3⟩ := HKN.out.c hSw; clear hSw; go_simp; try with_reducible rfl)
    try simp only [Act.put, List.setIfInBounds_toArray, List.set_cons_zero, List.set_cons_succ]
    refine wpAnyH_take (i := 9) (v := ?_) (by simp only [List.getElem?_toArray, List.getElem?_cons_succ, List.getElem?_cons_zero]; rfl) (by kernel_rfl) (by kernel_rfl) (by kernel_rfl) (fun _ _ _ h => h) (Or.inl ⟨by rfl, ?_⟩) (by assumption) ?_
    rotate_left 1
    · (intro w' hSw; obtain ⟨c0, c1, c2, c3, d0, d1, d2, d3⟩ := HKN.out.c hSw; clear hSw; go_simp; try with_reducible rfl)
    try simp only [Act.put, List.setIfInBounds_toArray, List.set_cons_zero, List.set_cons_succ]
    refine wpAnyH_ready (rs := [8]) (by kernel_rfl) (by simp) ?_
    refine AllReadyH.cons (by simp only [List.getElem?_toArray, List.getElem?_cons_succ, List.getElem?_cons_zero]; rfl) (fun K hK => ?_) AllReadyH.nil
    go_simp
    refine (HR1.out _ hHeld).mono ?_
    rintro _ wA ⟨AA, kA, lA, rfl, hkA, hcA, hbA⟩
    have hS := hHeld.trans (hbA.mono hHeld.size)
    clear hHeld
    go_wp2_with fail
    refine hK.out _ _ ?_ (fun hHeld => ?_)
    · exact hS
    clear hK K
    try simp only [Act.put, List.setIfInBounds_toArray, List.set_cons_zero, List.set_cons_succ]
    refine wpAnyH_ready (rs := [10]) (by kernel_rfl) (by simp) ?_
    refine AllReadyH.cons (by simp only [List.getElem?_toArray, List.getElem?_cons_succ, List.getElem?_cons_zero]; rfl) (fun K hK => ?_) AllReadyH.nil
    go_simp
    refine (HR2.out _ hHeld).mono ?_
    rintro _ wB ⟨AB, kB, lB, rfl, hkB, hcB, hbB⟩
    have hkA2 := hkA.below hbB
    have hS := hHeld.trans (hbB.mono hHeld.size)
    clear hHeld hbA hbB hkA
    go_wp2_with fail
    refine hK.out _ _ ?_ (fun hHeld => ?_)
    · exact hS
    clear hK K
    try simp only [Act.put, List.setIfInBounds_toArray, List.set_cons_zero, List.set_cons_succ]
    refine wpAnyH_ready (rs := [11]) (by kernel_rfl) (by simp) ?_
    refine AllReadyH.cons (by simp only [List.getElem?_toArray, List.getElem?_cons_succ, List.getElem?_cons_zero]; rfl) (fun K hK => ?_) AllReadyH.nil
    go_simp
    refine (HSA.out _ _ _ _ _ hkA2 hcA hkB hcB).mono ?_
    rintro _ wC ⟨rfl, hbC⟩
    have hS := hHeld.trans (hbC.mono hHeld.size)
    clear hHeld hbC hkA2 hkB hcA hcB
    go_wp2_with fail
    refine hK.out _ _ ?_ (fun hHeld => ?_)
    · exact hS
    clear hK K
    try simp only [Act.put, List.setIfInBounds_toArray, List.set_cons_zero, List.set_cons_succ]
    refine wpAnyH_take (i := 12) (v := ?_) (by simp only [List.getElem?_toArray, List.getElem?_cons_succ, List.getElem?_cons_zero]; rfl) (by kernel_rfl) (by kernel_rfl) (by kernel_rfl) (fun _ _ _ h => h) (Or.inl ⟨by rfl, ?_⟩) (by assumption) ?_
    rotate_left 1
    · (intro w' hSw; obtain ⟨c0, c1, c2, c3, d0, d1, d2, d3⟩ := HKN.out.c hSw; clear hSw; go_simp; try with_reducible rfl)
    try simp only [Act.put, List.setIfInBounds_toArray, List.set_cons_zero, List.set_cons_succ]
    refine wpAnyH_take (i := 13) (v := ?_) (by simp only [List.getElem?_toArray, List.getElem?_cons_succ, List.getElem?_cons_zero]; rfl) (by kernel_rfl) (by kernel_rfl) (by kernel_rfl) (fun _ _ _ h => h) (Or.inl ⟨by rfl, ?_⟩) (by assumption) ?_
    rotate_left 1
    · (intro w' hSw; obtain ⟨c0, c1, c2, c3, d0, d1, d2, d3⟩ := HKN.out.c hSw; clear hSw; go_simp; try with_reducible rfl)
    try simp only [Act.put, List.setIfInBounds_toArray, List.set_cons_zero, List.set_cons_succ]
    refine wpAnyH_done (by kernel_rfl) ?_ _
    refine NoPanic.normal ?_
    have hE := hHeld
    clear hHeld
    have HE := Lib.hid (HBN.out.trans (hE.mono HBN.out.size))
    clear hE
    go_wp2_with fail
    go_ret
    exact ⟨rfl, HE.out⟩
  obtain ⟨hpb, hs12, hs15, htn⟩ := HBA.out hok
  have HTN := Lib.hid htn
  rw [hok] at HBU HRT
  have HPA := Lib.hid (fun W => pparse_any (buildP ⟨f, t, g, ckV l⟩).1 (by omega) W)
  rw [hpb] at HPA
  dsimp only at HPA
  clear hok hpb htn HBA
  generalize (buildP ⟨f, t, g, ckV l⟩).1 = bs at *
  have zl : decide ((1500 : Int) < (bs.size : Int)) = false := decide_eq_false (by omega)
  go_wp2_with fail
  refine (HBU.out _ HT.out.below).mono ?_
  rintro _ w3 ⟨rfl, hb3⟩
  replace HT := Lib.hid (HT.out.later hb3)
  clear hb3 d0 d1 d2 d3 HBU
  go_wp2_with fail
  refine (HPA.out _).mono ?_
  rintro _ w4 ⟨V2, l2, rfl, hk2, hc2, hb4⟩
  replace HT := Lib.hid (HT.out.later hb4)
  obtain ⟨A2, k2, rfl, -⟩ := hk2.slice
  have HKN := Lib.hid (KnS.made HT.out.own (f' := f) (t' := t) (g' := g) (.slice A2 l2.length k2))
  have hbn := (Below.refl w4.heap.size w4).alloc (Nat.le_refl _) (.cells (cellsP f t g (.slice A2 l2.length k2)) 26)
  have hbw := HT.out.below.trans (hbn.mono HT.out.below.size)
  have HR1 := Lib.hid (refK (f := f) (t := t) (g := g) HFIT.out HLEN.out hc2 (hk2.below hbn))
  have HR2 := Lib.hid (refK (f := f) (t := t) (g := g) HFIT.out HLEN.out rfl (HK.out.below hbw))
  have HSA := Lib.hid (sameK (f := f) (t := t) (g := g) HFIT.out HLEN.out)
  have HRI := Lib.hid (fun W (hW : Below (w4.alloc (.cells (cellsP f t g (.slice A2 l2.length k2)) 26)).heap.size (w4.alloc (.cells (cellsP f t g (.slice A2 l2.length k2)) 26)) W) => HRT.out W (hbw.trans (hW.mono hbw.size)))
  have HBN := Lib.hid hbw
  clear hk2 hc2 hb4 hbn hbw HT HK HFIT HLEN HRT HPA
  dsimp only [cellsP] at *
  go_wp2_with fail
  generalize w4.alloc (.cells #[.int .u16 (f : Int), .int .u16 (t : Int), .int .u32 (g : Int), .slice A2 l2.length k2] 26) = wq at *
  refine wp_region_noPanic ?_
  refine wp_region_held_drew (S := (Below wq.heap.size wq)) (by kernel_rfl) ?_ (fun hHeld => ?_)
  · exact (Below.refl _ _).drew
  refine wpAnyH_take (i := 0) (v := ?_) (by simp only [List.getElem?_toArray, List.getElem?_cons_zero]; rfl) (by kernel_rfl) (by kernel_rfl) (by kernel_rfl) (fun _ _ _ h => h) (Or.inl ⟨by rfl, ?_⟩) (by assumption) ?_
  rotate_left 1
  · (intro w' hSw; obtain ⟨c0, c1, c2, c3, d0, d1, d2, d3⟩ := HKN.out.c hSw; clear hSw; go_simp; try with_reducible rfl)
  try simp only [Act.put, List.setIfInBounds_toArray, List.set_cons_zero, List.set_cons_succ]
  refine wpAnyH_take (i := 1) (v := ?_) (by simp only [List.getElem?_toArray, List.getElem?_cons_succ, List.getElem?_cons_zero]; rfl) (by kernel_rfl) (by kernel_rfl) (by kernel_rfl) (fun _ _ _ h => h) (Or.inl ⟨by rfl, ?_⟩) (by assumption) ?_
  rotate_left 1
  · (intro w' hSw; obtain ⟨c0, c1, c2, c3, d0, d1, d2, d3⟩ := HKN.out.c hSw; clear hSw; go_simp; try with_reducible rfl)
  try simp only [Act.put, List.setIfInBounds_toArray, List.set_cons_zero, List.set_cons_succ]
  refine wpAnyH_take (i := 2) (v := ?_) (by simp only [List.getElem?_toArray, List.getElem?_cons_succ, List.getElem?_cons_zero]; rfl) (by kernel_rfl) (by kernel_rfl) (by kernel_rfl) (fun _ _ _ h => h) (Or.inl ⟨by rfl, ?_⟩) (by assumption) ?_
  rotate_left 1
  · (intro w' hSw; obtain ⟨c0, c1, c2, c3, d0, d1, d2, d3⟩ := HKN.out.c hSw; clear hSw; go_simp; try with_reducible rfl)
  try simp only [Act.put, List.setIfInBounds_toArray, List.set_cons_zero, List.set_cons_succ]
  refine wpAnyH_take (i := 3) (v := ?_) (by simp only [List.getElem?_toArray, List.getElem?_cons_succ, List.getElem?_cons_zero]; rfl) (by kernel_rfl) (by kernel_rfl) (by kernel_rfl) (fun _ _ _ h => h) (Or.inl ⟨by rfl, ?_⟩) (by assumption) ?_
  rotate_left 1
  · (intro w' hSw; obtain ⟨c0, c1, c2, c3, d0, d1, d2, d3⟩ := HKN.out.c hSw; clear hSw; go_simp; try with_reducible rfl)
  try simp only [Act.put, List.setIfInBounds_toArray, List.set_cons_zero, List.set_cons_succ]
  refine wpAnyH_take (i := 5) (v := ?_) (by simp only [List.getElem?_toArray, List.getElem?_cons_succ, List.getElem?_cons_zero]; rfl) (by kernel_rfl) (by kernel_rfl) (by kernel_rfl) (fun _ _ _ h => h) (Or.inl ⟨by rfl, ?_⟩) (by assumption) ?_
  rotate_left 1
  · (intro w' hSw; obtain ⟨c0, c1, c2, c3, d0, d1, d2, d3⟩ := HKN.out.c hSw; clear hSw; go_simp; try with_reducible rfl)
  try simp only [Act.put, List.setIfInBounds_toArray, List.set_cons_zero, List.set_cons_succ]
  refine wpAnyH_ready (rs := [4]) (by kernel_rfl) (by simp) ?_
  refine AllReadyH.cons (by simp only [List.getElem?_toArray, List.getElem?_cons_succ, List.getElem?_cons_zero]; rfl) (fun K hK => ?_) AllReadyH.nil
  go_simp
  refine (HR1.out _ hHeld).mono ?_
  rintro _ wA ⟨AA, kA, lA, rfl, hkA, hcA, hbA⟩
  have hS := hHeld.trans (hbA.mono hHeld.size)
  clear hHeld
  go_wp2_with fail
  refine hK.out _ _ ?_ (fun hHeld => ?_)
  · exact hS
  clear hK K
  try simp only [Act.put, List.setIfInBounds_toArray, List.set_cons_zero, List.set_cons_succ]
  refine wpAnyH_ready (rs := [6]) (by kernel_rfl) (by simp) ?_
  refine AllReadyH.cons (by simp only [List.getElem?_toArray, List.getElem?_cons_succ, List.getElem?_cons_zero]; rfl) (fun K hK => ?_) AllReadyH.nil
  go_simp
  refine (HR2.out _ hHeld).mono ?_
  rintro _ wB ⟨AB, kB, lB, rfl, hkB, hcB, hbB⟩
  have hkA2 := hkA.below hbB
  have hS := hHeld.trans (hbB.mono hHeld.size)
  clear hHeld hbA hbB hkA
  go_wp2_with fail
  refine hK.out _ _ ?_ (fun hHeld => ?_)
  · exact hS
  clear hK K
  try simp only [Act.put, List.setIfInBounds_toArray, List.set_cons_zero, List.set_cons_succ]
  refine wpAnyH_ready (rs := [7]) (by kernel_rfl) (by simp) ?_
  refine AllReadyH.cons (by simp only [List.getElem?_toArray, List.getElem?_cons_succ, List.getElem?_cons_zero]; rfl) (fun K hK => ?_) AllReadyH.nil
  go_simp
  refine (HSA.out _ _ _ _ _ hkA2 hcA hkB hcB).mono ?_
  rintro _ wC ⟨rfl, hbC⟩
  have hS := hHeld.trans (hbC.mono hHeld.size)
  clear hHeld hbC hkA2 hkB hcA hcB
  go_wp2_with fail
  refine hK.out _ _ ?_ (fun hHeld => ?_)
  · exact hS
  clear hK K
  try simp only [Act.put, List.setIfInBounds_toArray, List.set_cons_zero, List.set_cons_succ]
  refine wpAnyH_take (i := 8) (v := ?_) (by simp only [List.getElem?_toArray, List.getElem?_cons_succ, List.getElem?_cons_zero]; rfl) (by kernel_rfl) (by kernel_rfl) (by kernel_rfl) (fun _ _ _ h => h) (Or.inl ⟨by rfl, ?_⟩) (by assumption) ?_
  rotate_left 1
  · (intro w' hSw; obtain ⟨c0, c1, c2, c3, d0, d1, d2, d3⟩ := HKN.out.c hSw; clear hSw; go_simp; try with_reducible rfl)
  try simp only [Act.put, List.setIfInBounds_toArray, List.set_cons_zero, List.set_cons_succ]
  refine wpAnyH_take (i := 9) (v := ?_) (by simp only [List.getElem?_toArray, List.getElem?_cons_succ, List.getElem?_cons_zero]; rfl) (by kernel_rfl) (by kernel_rfl) (by kernel_rfl) (fun _ _ _ h => h) (Or.inl ⟨by rfl, ?_⟩) (by assumption) ?_
  rotate_left 1
  · (intro w' hSw; obtain ⟨c0, c1, c2, c3, d0, d1, d2, d3⟩ := HKN.out.c hSw; clear hSw; go_simp; try with_reducible rfl)
  try simp only [Act.put, List.setIfInBounds_toArray, List.set_cons_zero, List.set_cons_succ]
  refine wpAnyH_take (i := 10) (v := ?_) (by simp only [List.getElem?_toArray, List.getElem?_cons_succ, List.getElem?_cons_zero]; rfl) (by kernel_rfl) (by kernel_rfl) (by kernel_rfl) (fun _ _ _ h => h) (Or.inl ⟨by rfl, ?_⟩) (by assumption) ?_
  rotate_left 1
  · (intro w' hSw; obtain ⟨c0, c1, c2, c3, d0, d1, d2, d3⟩ := HKN.out.c hSw; clear hSw; go_simp; try with_reducible rfl)
  try simp only [Act.put, List.setIfInBounds_toArray, List.set_cons_zero, List.set_cons_succ]
  refine wpAnyH_take (i := 11) (v := ?_) (by simp only [List.getElem?_toArray, List.getElem?_cons_succ, List.getElem?_cons_zero]; rfl) (by kernel_rfl) (by kernel_rfl) (by kernel_rfl) (fun _ _ _ h => h) (Or.inl ⟨by rfl, ?_⟩) (by assumption) ?_
  rotate_left 1
  · (intro w' hSw; obtain ⟨c0, c1, c2, c3, d0, d1, d2, d3⟩ := HKN.out.c hSw; clear hSw; go_simp; try with_reducible rfl)
  try simp only [Act.put, List.setIfInBounds_toArray, List.set_cons_zero, List.set_cons_succ]
  refine wpAnyH_take (i := 12) (v := ?_) (by simp only [List.getElem?_toArray, List.getElem?_cons_succ, List.getElem?_cons_zero]; rfl) (by kernel_rfl) (by kernel_rfl) (by kernel_rfl) (fun _ _ _ h => h) (Or.inl ⟨by rfl, ?_⟩) (by assumption) ?_
  rotate_left 1
  · (intro w' hSw; obtain ⟨c0, c1, c2, c3, d0, d1, d2, d3⟩ := HKN.out.c hSw; clear hSw; go_simp; try with_reducible rfl)
  try simp only [Act.put, List.setIfInBounds_toArray, List.set_cons_zero, List.set_cons_succ]
  refine wpAnyH_take (i := 13) (v := ?_) (by simp only [List.getElem?_toArray, List.getElem?_cons_succ, List.getElem?_cons_zero]; rfl) (by kernel_rfl) (by kernel_rfl) (by kernel_rfl) (fun _ _ _ h => h) (Or.inl ⟨by rfl, ?_⟩) (by assumption) ?_
  rotate_left 1
  · (intro w' hSw; obtain ⟨c0, c1, c2, c3, d0, d1, d2, d3⟩ := HKN.out.c hSw; clear hSw; go_simp; try with_reducible rfl)
  try simp only [Act.put, List.setIfInBounds_toArray, List.set_cons_zero, List.set_cons_succ]
  refine wpAnyH_take (i := 14) (v := ?_) (by simp only [List.getElem?_toArray, List.getElem?_cons_succ, List.getElem?_cons_zero]; rfl) (by kernel_rfl) (by kernel_rfl) (by kernel_rfl) (fun _ _ _ h => h) (Or.inl ⟨by rfl, ?_⟩) (by assumption) ?_
  rotate_left 1
  · (intro w' hSw; obtain ⟨c0, c1, c2, c3, d0, d1, d2, d3⟩ := HKN.out.c hSw; clear hSw; go_simp; try with_reducible rfl)
  try simp only [Act.put, List.setIfInBounds_toArray, List.set_cons_zero, List.set_cons_succ]
  refine wpAnyH_take (i := 15) (v := ?_) (by simp only [List.getElem?_toArray, List.getElem?_cons_succ, List.getElem?_cons_zero]; rfl) (by kernel_rfl) (by kernel_rfl) (by kernel_rfl) (fun _ _ _ h => h) (Or.inl ⟨by rfl, ?_⟩) (by assumption) ?_
  rotate_left 1
  · (intro w' hSw; obtain ⟨c0, c1, c2, c3, d0, d1, d2, d3⟩ := HKN.out.c hSw; clear hSw; go_simp; try with_reducible rfl)
  try simp only [Act.put, List.setIfInBounds_toArray, List.set_cons_zero, List.set_cons_succ]
  refine wpAnyH_take (i := 16) (v := ?_) (by simp only [List.getElem?_toArray, List.getElem?_cons_succ, List.getElem?_cons_zero]; rfl) (by kernel_rfl) (by kernel_rfl) (by kernel_rfl) (fun _ _ _ h => h) (Or.inl ⟨by rfl, ?_⟩) (by assumption) ?_
  rotate_left 1
  · (intro w' hSw; obtain ⟨c0, c1, c2, c3, d0, d1, d2, d3⟩ := HKN.out.c hSw; clear hSw; go_simp; try with_reducible rfl)
  try simp only [Act.put, List.setIfInBounds_toArray, List.set_cons_zero, List.set_cons_succ]
  refine wpAnyH_ready (rs := [17]) (by kernel_rfl) (by simp) ?_
  refine AllReadyH.cons (by simp only [List.getElem?_toArray, List.getElem?_cons_succ, List.getElem?_cons_zero]; rfl) (fun K hK => ?_) AllReadyH.nil
  go_simp
  refine (HRI.out _ hHeld).mono ?_
  rintro _ wD ⟨rfl, hbD⟩
  have hS := hHeld.trans (hbD.mono hHeld.size)
  clear hHeld hbD
  go_wp2_with fail
  refine hK.out _ _ ?_ (fun hHeld => ?_)
  · exact hS
  clear hK K
  try simp only [Act.put, List.setIfInBounds_toArray, List.set_cons_zero, List.set_cons_succ]
  refine wpAnyH_take (i := 18) (v := ?_) (by simp only [List.getElem?_toArray, List.getElem?_cons_succ, List.getElem?_cons_zero]; rfl) (by kernel_rfl) (by kernel_rfl) (by kernel_rfl) (fun _ _ _ h => h) (Or.inl ⟨by rfl, ?_⟩) (by assumption) ?_
  rotate_left 1
  · (intro w' hSw; obtain ⟨c0, c1, c2, c3, d0, d1, d2, d3⟩ := HKN.out.c hSw; clear hSw; go_simp; try with_reducible rfl)
  try simp only [Act.put, List.setIfInBounds_toArray, List.set_cons_zero, List.set_cons_succ]
  refine wpAnyH_take (i := 19) (v := ?_) (by simp only [List.getElem?_toArray, List.getElem?_cons_succ, List.getElem?_cons_zero]; rfl) (by kernel_rfl) (by kernel_rfl) (by kernel_rfl) (fun _ _ _ h => h) (Or.inl ⟨by rfl, ?_⟩) (by assumption) ?_
  rotate_left 1
  · (intro w' hSw; obtain ⟨c0, c1, c2, c3, d0, d1, d2, d3⟩ := HKN.out.c hSw; clear hSw; go_simp; try with_reducible rfl)
  try simp only [Act.put, List.setIfInBounds_toArray, List.set_cons_zero, List.set_cons_succ]
  refine wpAnyH_done (by kernel_rfl) ?_ _
  refine NoPanic.normal ?_
  have hE := hHeld
  clear hHeld
  have HBD := Lib.hid (HBN.out.trans (hE.mono HBN.out.size))
  clear hE HR1 HR2 HSA HRI HKN HBN
  by_cases hall : (0 : Int) ≤ a ∧ a < (bs.size : Int) ∧ x ≠ 0
  case neg =>
    have HB0 := HBD
    by_cases h1 : (0 : Int) ≤ a
    · have z1 : decide ((0 : Int) ≤ a) = true := decide_eq_true h1
      by_cases h2 : a < (bs.size : Int)
      · have z2 : decide (a < (bs.size : Int)) = true := decide_eq_true h2
        have z3 : ((x : Int) != 0) = false := by
          rw [bne_eq_false_iff_eq]
          by_cases h3 : x = 0
          · omega
          · exact absurd ⟨h1, h2, h3⟩ hall
        clear hall h1 h2
        go_wp2_with fail
        refine (HPT.out _).mono ?_
        rintro _ wp ⟨V3, l3, rfl, hk3, hc3, hb3⟩
        have HBP := Lib.hid (HB0.out.trans (hb3.mono HB0.out.size))
        obtain ⟨A3, k3, rfl, -⟩ := hk3.slice
        have HK3 := Lib.hid hk3
        have HC3 := Lib.hid hc3
        have HKO : Hid ((wp.alloc (.cells #[.int .u16 (f3 : Int), .int .u16 (t3 : Int), .int .u32 (g3 : Int), .slice A3 l3.length k3] 26)).heap[wp.heap.size]? = some (.cells #[.int .u16 (f3 : Int), .int .u16 (t3 : Int), .int .u32 (g3 : Int), .slice A3 l3.length k3] 26 (0, 0))) := Lib.hid (heap_alloc_new _ _)
        have HKB := Lib.hid ((Below.refl wp.heap.size wp).alloc (Nat.le_refl _) (.cells #[.int .u16 (f3 : Int), .int .u16 (t3 : Int), .int .u32 (g3 : Int), .slice A3 l3.length k3] 26))
        have c0 : (wp.alloc (.cells #[.int .u16 (f3 : Int), .int .u16 (t3 : Int), .int .u32 (g3 : Int), .slice A3 l3.length k3] 26)).cell? ⟨wp.heap.size, 0, none⟩ = some (.int .u16 (f3 : Int)) := by rw [cell_in HKO.out]; rfl
        have c1 : (wp.alloc (.cells #[.int .u16 (f3 : Int), .int .u16 (t3 : Int), .int .u32 (g3 : Int), .slice A3 l3.length k3] 26)).cell? ⟨wp.heap.size, 1, none⟩ = some (.int .u16 (t3 : Int)) := by rw [cell_in HKO.out]; rfl
        have c2 : (wp.alloc (.cells #[.int .u16 (f3 : Int), .int .u16 (t3 : Int), .int .u32 (g3 : Int), .slice A3 l3.length k3] 26)).cell? ⟨wp.heap.size, 2, none⟩ = some (.int .u32 (g3 : Int)) := by rw [cell_in HKO.out]; rfl
        have c3 : (wp.alloc (.cells #[.int .u16 (f3 : Int), .int .u16 (t3 : Int), .int .u32 (g3 : Int), .slice A3 l3.length k3] 26)).cell? ⟨wp.heap.size, 3, none⟩ = some (.slice A3 l3.length k3) := by rw [cell_in HKO.out]; rfl
        clear hk3 hc3 hb3 HB0 HPT
        by_cases he3 : e3 = 0
        case neg =>
          obtain ⟨hf3, ht3, hg3, hL3⟩ := HPE.out he3
          have hl3 : l3.length = 0 := by have := congrArg List.length HC3.out; rw [ckV_length, hL3] at this; exact this
          have z1 : ((e3 : Int) != 0) = true := bne_iff_ne.2 (by omega)
          have z2 : ((l3.length : Int) == 0) = true := beq_iff_eq.2 (by omega)
          have HRZ := Lib.hid (fun W hW => right_none hf3 ht3 hg3 (.slice A3 l3.length k3) l3 hl3 W (HK3.out.below hW))
          clear hl3 hL3 hf3 ht3 hg3 he3 HPE HPO HC3 HK3
          dsimp only [cellsP] at *
          go_wp2_with fail
          refine (HRZ.out _ HKB.out).mono ?_
          rintro _ wr ⟨rfl, hbr⟩
          have HBR := Lib.hid (HBP.out.trans ((HKB.out.trans (hbr.mono HKB.out.size)).mono HBP.out.size))
          clear hbr
          go_wp2_with fail
          go_ret
          exact ⟨rfl, HBR.out⟩
        obtain ⟨hf3, ht3, hg3, hfit3, hlen3, hok3, hbk3, hsz3⟩ := HPO.out he3
        have z1 : ((e3 : Int) != 0) = false := by rw [he3]; rfl
        have HB3 := Lib.hid (fun W hW => pbuild_any f3 t3 g3 hf3 ht3 hg3 (.slice A3 l3.length k3) l3 (len_ok HC3.out hlen3) (fit_of HC3.out hfit3) W (HK3.out.below hW))
        rw [HC3.out] at HB3
        have HP4 := Lib.hid (fun W => pparse_any (buildP ⟨f3, t3, g3, L3⟩).1 (by omega) W)
        rw [hbk3] at HP4
        dsimp only at HP4
        rw [hok3] at HB3
        have HFIT3 := Lib.hid hfit3
        have HLEN3 := Lib.hid hlen3
        generalize (buildP ⟨f3, t3, g3, L3⟩).1 = B3 at *
        clear hf3 ht3 hg3 hfit3 hlen3 hok3 hbk3 hsz3 HPE HPO he3
        dsimp only [cellsP] at *
        go_wp2_with fail
        refine (HB3.out _ HKB.out).mono ?_
        rintro _ wb ⟨rfl, hbb⟩
        have HKB2 := Lib.hid (HKB.out.trans (hbb.mono HKB.out.size))
        clear c0 c1 c2 c3
        have hown : wb.heap[wp.heap.size]? = some (.cells #[.int .u16 (f3 : Int), .int .u16 (t3 : Int), .int .u32 (g3 : Int), .slice A3 l3.length k3] 26 (0, 0)) := (hbb.block _ (Array.getElem?_eq_some_iff.1 HKO.out).1).trans HKO.out
        have HO2 := Lib.hid hown
        clear hbb hown HKO HKB HB3
        go_wp2_with fail
        refine (HP4.out _).mono ?_
        rintro _ wx ⟨V4, l4, rfl, hk4, hc4, hb4⟩
        obtain ⟨A4, k4, rfl, -⟩ := hk4.slice
        have HKB4 := Lib.hid (HKB2.out.trans (hb4.mono HKB2.out.size))
        have hown := (hb4.block _ (Array.getElem?_eq_some_iff.1 HO2.out).1).trans HO2.out
        have HKN := Lib.hid (KnS.made hown (f' := f3) (t' := t3) (g' := g3) (.slice A4 l4.length k4))
        have hbn := (Below.refl wx.heap.size wx).alloc (Nat.le_refl _) (.cells (cellsP f3 t3 g3 (.slice A4 l4.length k4)) 26)
        have HR1 := Lib.hid (refK (f := f3) (t := t3) (g := g3) HFIT3.out HLEN3.out HC3.out (HK3.out.below (HKB4.out.trans (hbn.mono HKB4.out.size))))
        have HR2 := Lib.hid (refK (f := f3) (t := t3) (g := g3) HFIT3.out HLEN3.out hc4 (hk4.below hbn))
        have HSA := Lib.hid (sameK (f := f3) (t := t3) (g := g3) HFIT3.out HLEN3.out)
        have HBN := Lib.hid (HBP.out.trans (((HKB4.out.trans (hbn.mono HKB4.out.size))).mono HBP.out.size))
        clear hk4 hc4 hb4 hown hbn HKB2 HO2 HK3 HC3 HFIT3 HLEN3 HKB4 HP4 HBP
        dsimp only [cellsP] at *
        go_wp2_with fail
        generalize wx.alloc (.cells #[.int .u16 (f3 : Int), .int .u16 (t3 : Int), .int .u32 (g3 : Int), .slice A4 l4.length k4] 26) = wq at *
        refine wp_region_noPanic ?_
        refine wp_region_held_drew (S := (Below wq.heap.size wq)) (by kernel_rfl) ?_ (fun hHeld => ?_)
        · exact (Below.refl _ _).drew
        refine wpAnyH_take (i := 0) (v := ?_) (by simp only [List.getElem?_toArray, List.getElem?_cons_zero]; rfl) (by kernel_rfl) (by kernel_rfl) (by kernel_rfl) (fun _ _ _ h => h) (Or.inl ⟨by rfl, ?_⟩) (by assumption) ?_
        rotate_left 1
        · (intro w' hSw; obtain ⟨c0, c1, c2, c3, d0, d1, d2, d3⟩ := HKN.out.c hSw; clear hSw; go_simp; try with_reducible rfl)
        try simp only [Act.put, List.setIfInBounds_toArray, List.set_cons_zero, List.set_cons_succ]
        refine wpAnyH_take (i := 1) (v := ?_) (by simp only [List.getElem?_toArray, List.getElem?_cons_succ, List.getElem?_cons_zero]; rfl) (by kernel_rfl) (by kernel_rfl) (by kernel_rfl) (fun _ _ _ h => h) (Or.inl ⟨by rfl, ?_⟩) (by assumption) ?_
        rotate_left 1
        · (intro w' hSw; obtain ⟨c0, c1, c2, c3, d0, d1, d2, d3⟩ := HKN.out.c hSw; clear hSw; go_simp; try with_reducible rfl)
        try simp only [Act.put, List.setIfInBounds_toArray, List.set_cons_zero, List.set_cons_succ]
        refine wpAnyH_take (i := 2) (v := ?_) (by simp only [List.getElem?_toArray, List.getElem?_cons_succ, List.getElem?_cons_zero]; rfl) (by kernel_rfl) (by kernel_rfl) (by kernel_rfl) (fun _ _ _ h => h) (Or.inl ⟨by rfl, ?_⟩) (by assumption) ?_
        rotate_left 1
        · (intro w' hSw; obtain ⟨c0, c1, c2, c3, d0, d1, d2, d3⟩ := HKN.out.c hSw; clear hSw; go_simp; try with_reducible rfl)
        try simp only [Act.put, List.setIfInBounds_toArray, List.set_cons_zero, List.set_cons_succ]
        refine wpAnyH_take (i := 3) (v := ?_) (by simp only [List.getElem?_toArray, List.getElem?_cons_succ, List.getElem?_cons_zero]; rfl) (by kernel_rfl) (by kernel_rfl) (by kernel_rfl) (fun _ _ _ h => h) (Or.inl ⟨by rfl, ?_⟩) (by assumption) ?_
        rotate_left 1
        · (intro w' hSw; obtain ⟨c0, c1, c2, c3, d0, d1, d2, d3⟩ := HKN.out.c hSw; clear hSw; go_simp; try with_reducible rfl)
        try simp only [Act.put, List.setIfInBounds_toArray, List.set_cons_zero, List.set_cons_succ]
        refine wpAnyH_take (i := 4) (v := ?_) (by simp only [List.getElem?_toArray, List.getElem?_cons_succ, List.getElem?_cons_zero]; rfl) (by kernel_rfl) (by kernel_rfl) (by kernel_rfl) (fun _ _ _ h => h) (Or.inl ⟨by rfl, ?_⟩) (by assumption) ?_
        rotate_left 1
        · (intro w' hSw; obtain ⟨c0, c1, c2, c3, d0, d1, d2, d3⟩ := HKN.out.c hSw; clear hSw; go_simp; try with_reducible rfl)
        try simp only [Act.put, List.setIfInBounds_toArray, List.set_cons_zero, List.set_cons_succ]
        refine wpAnyH_take (i := 5) (v := ?_) (by simp only [List.getElem?_toArray, List.getElem?_cons_succ, List.getElem?_cons_zero]; rfl) (by kernel_rfl) (by kernel_rfl) (by kernel_rfl) (fun _ _ _ h => h) (Or.inl ⟨by rfl, ?_⟩) (by assumption) ?_
        rotate_left 1
        · (intro w' hSw; obtain ⟨c0, c1, c2, c3, d0, d1, d2, d3⟩ := HKN.out.c hSw; clear hSw; go_simp; try with_reducible rfl)
        try simp only [Act.put, List.setIfInBounds_toArray, List.set_cons_zero, List.set_cons_succ]
        refine wpAnyH_take (i := 6) (v := ?_) (by simp only [List.getElem?_toArray, List.getElem?_cons_succ, List.getElem?_cons_zero]; rfl) (by kernel_rfl) (by kernel_rfl) (by kernel_rfl) (fun _ _ _ h => h) (Or.inl ⟨by rfl, ?_⟩) (by assumption) ?_
        rotate_left 1
        · (intro w' hSw; obtain ⟨c0, c1, c2, c3, d0, d1, d2, d3⟩ := HKN.out.c hSw; clear hSw; go_simp; try with_reducible rfl)
        try simp only [Act.put, List.setIfInBounds_toArray, List.set_cons_zero, List.set_cons_succ]
        refine wpAnyH_take (i := 7) (v := ?_) (by simp only [List.getElem?_toArray, List.getElem?_cons_succ, List.getElem?_cons_zero]; rfl) (by kernel_rfl) (by kernel_rfl) (by kernel_rfl) (fun _ _ _ h => h) (Or.inl ⟨by rfl, ?_⟩) (by assumption) ?_
        rotate_left 1
        · (intro w' hSw; obtain ⟨c0, c1, c2, c3, d0, d1, d2, d3⟩ := HKN.out.c hSw; clear hSw; go_simp; try with_reducible rfl)
        try simp only [Act.put, List.setIfInBounds_toArray, List.set_cons_zero, List.set_cons_succ]
        refine wpAnyH_take (i := 9) (v := ?_) (by simp only [List.getElem?_toArray, List.getElem?_cons_succ, List.getElem?_cons_zero]; rfl) (by kernel_rfl) (by kernel_rfl) (by kernel_rfl) (fun _ _ _ h => h) (Or.inl ⟨by rfl, ?_⟩) (by assumption) ?_
        rotate_left 1
        · (intro w' hSw; obtain ⟨c0, c1, c2, c3, d0, d1, d2, d3⟩ := HKN.out.c hSw; clear hSw; go_simp; try with_reducible rfl)
        try simp only [Act.put, List.setIfInBounds_toArray, List.set_cons_zero, List.set_cons_succ]
        refine wpAnyH_ready (rs := [8]) (by kernel_rfl) (by simp) ?_
        refine AllReadyH.cons (by simp only [List.getElem?_toArray, List.getElem?_cons_succ, List.getElem?_cons_zero]; rfl) (fun K hK => ?_) AllReadyH.nil
        go_simp
        refine (HR1.out _ hHeld).mono ?_
        rintro _ wA ⟨AA, kA, lA, rfl, hkA, hcA, hbA⟩
        have hS := hHeld.trans (hbA.mono hHeld.size)
        clear hHeld
        go_wp2_with fail
        refine hK.out _ _ ?_ (fun hHeld => ?_)
        · exact hS
        clear hK K
        try simp only [Act.put, List.setIfInBounds_toArray, List.set_cons_zero, List.set_cons_succ]
        refine wpAnyH_ready (rs := [10]) (by kernel_rfl) (by simp) ?_
        refine AllReadyH.cons (by simp only [List.getElem?_toArray, List.getElem?_cons_succ, List.getElem?_cons_zero]; rfl) (fun K hK => ?_) AllReadyH.nil
        go_simp
        refine (HR2.out _ hHeld).mono ?_
        rintro _ wB ⟨AB, kB, lB, rfl, hkB, hcB, hbB⟩
        have hkA2 := hkA.below hbB
        have hS := hHeld.trans (hbB.mono hHeld.size)
        clear hHeld hbA hbB hkA
        go_wp2_with fail
        refine hK.out _ _ ?_ (fun hHeld => ?_)
        · exact hS
        clear hK K
        try simp only [Act.put, List.setIfInBounds_toArray, List.set_cons_zero, List.set_cons_succ]
        refine wpAnyH_ready (rs := [11]) (by kernel_rfl) (by simp) ?_
        refine AllReadyH.cons (by simp only [List.getElem?_toArray, List.getElem?_cons_succ, List.getElem?_cons_zero]; rfl) (fun K hK => ?_) AllReadyH.nil
        go_simp
        refine (HSA.out _ _ _ _ _ hkA2 hcA hkB hcB).mono ?_
        rintro _ wC ⟨rfl, hbC⟩
        have hS := hHeld.trans (hbC.mono hHeld.size)
        clear hHeld hbC hkA2 hkB hcA hcB
        go_wp2_with fail
        refine hK.out _ _ ?_ (fun hHeld => ?_)
        · exact hS
        clear hK K
        try simp only [Act.put, List.setIfInBounds_toArray, List.set_cons_zero, List.set_cons_succ]
        refine wpAnyH_take (i := 12) (v := ?_) (by simp only [List.getElem?_toArray, List.getElem?_cons_succ, List.getElem?_cons_zero]; rfl) (by kernel_rfl) (by kernel_rfl) (by kernel_rfl) (fun _ _ _ h => h) (Or.inl ⟨by rfl, ?_⟩) (by assumption) ?_
        rotate_left 1
        · (intro w' hSw; obtain ⟨c0, c1, c2, c3, d0, d1, d2, d3⟩ := HKN.out.c hSw; clear hSw; go_simp; try with_reducible rfl)
        try simp only [Act.put, List.setIfInBounds_toArray, List.set_cons_zero, List.set_cons_succ]
        refine wpAnyH_take (i := 13) (v := ?_) (by simp only [List.getElem?_toArray, List.getElem?_cons_succ, List.getElem?_cons_zero]; rfl) (by kernel_rfl) (by kernel_rfl) (by kernel_rfl) (fun _ _ _ h => h) (Or.inl ⟨by rfl, ?_⟩) (by assumption) ?_
        rotate_left 1
        · (intro w' hSw; obtain ⟨c0, c1, c2, c3, d0, d1, d2, d3⟩ := HKN.out.c hSw; clear hSw; go_simp; try with_reducible rfl)
        try simp only [Act.put, List.setIfInBounds_toArray, List.set_cons_zero, List.set_cons_succ]
        refine wpAnyH_done (by kernel_rfl) ?_ _
        refine NoPanic.normal ?_
        have hE := hHeld
        clear hHeld
        have HE := Lib.hid (HBN.out.trans (hE.mono HBN.out.size))
        clear hE
        go_wp2_with fail
        go_ret
        exact ⟨rfl, HE.out⟩
      · have z2 : decide (a < (bs.size : Int)) = false := decide_eq_false h2
        clear hall h1 h2
        go_wp2_with fail
        refine (HPT.out _).mono ?_
        rintro _ wp ⟨V3, l3, rfl, hk3, hc3, hb3⟩
        have HBP := Lib.hid (HB0.out.trans (hb3.mono HB0.out.size))
        obtain ⟨A3, k3, rfl, -⟩ := hk3.slice
        have HK3 := Lib.hid hk3
        have HC3 := Lib.hid hc3
        have HKO : Hid ((wp.alloc (.cells #[.int .u16 (f3 : Int), .int .u16 (t3 : Int), .int .u32 (g3 : Int), .slice A3 l3.length k3] 26)).heap[wp.heap.size]? = some (.cells #[.int .u16 (f3 : Int), .int .u16 (t3 : Int), .int .u32 (g3 : Int), .slice A3 l3.length k3] 26 (0, 0))) := Lib.hid (heap_alloc_new _ _)
        have HKB := Lib.hid ((Below.refl wp.heap.size wp).alloc (Nat.le_refl _) (.cells #[.int .u16 (f3 : Int), .int .u16 (t3 : Int), .int .u32 (g3 : Int), .slice A3 l3.length k3] 26))
        have c0 : (wp.alloc (.cells #[.int .u16 (f3 : Int), .int .u16 (t3 : Int), .int .u32 (g3 : Int), .slice A3 l3.length k3] 26)).cell? ⟨wp.heap.size, 0, none⟩ = some (.int .u16 (f3 : Int)) := by rw [cell_in HKO.out]; rfl
        have c1 : (wp.alloc (.cells #[.int .u16 (f3 : Int), .int .u16 (t3 : Int), .int .u32 (g3 : Int), .slice A3 l3.length k3] 26)).cell? ⟨wp.heap.size, 1, none⟩ = some (.int .u16 (t3 : Int)) := by rw [cell_in HKO.out]; rfl
        have c2 : (wp.alloc (.cells #[.int .u16 (f3 : Int), .int .u16 (t3 : Int), .int .u32 (g3 : Int), .slice A3 l3.length k3] 26)).cell? ⟨wp.heap.size, 2, none⟩ = some (.int .u32 (g3 : Int)) := by rw [cell_in HKO.out]; rfl
        have c3 : (wp.alloc (.cells #[.int .u16 (f3 : Int), .int .u16 (t3 : Int), .int .u32 (g3 : Int), .slice A3 l3.length k3] 26)).cell? ⟨wp.heap.size, 3, none⟩ = some (.slice A3 l3.length k3) := by rw [cell_in HKO.out]; rfl
        clear hk3 hc3 hb3 HB0 HPT
        by_cases he3 : e3 = 0
        case neg =>
          obtain ⟨hf3, ht3, hg3, hL3⟩ := HPE.out he3
          have hl3 : l3.length = 0 := by have := congrArg List.length HC3.out; rw [ckV_length, hL3] at this; exact this
          have z1 : ((e3 : Int) != 0) = true := bne_iff_ne.2 (by omega)
          have z2 : ((l3.length : Int) == 0) = true := beq_iff_eq.2 (by omega)
          have HRZ := Lib.hid (fun W hW => right_none hf3 ht3 hg3 (.slice A3 l3.length k3) l3 hl3 W (HK3.out.below hW))
          clear hl3 hL3 hf3 ht3 hg3 he3 HPE HPO HC3 HK3
          dsimp only [cellsP] at *
          go_wp2_with fail
          refine (HRZ.out _ HKB.out).mono ?_
          rintro _ wr ⟨rfl, hbr⟩
          have HBR := Lib.hid (HBP.out.trans ((HKB.out.trans (hbr.mono HKB.out.size)).mono HBP.out.size))
          clear hbr
          go_wp2_with fail
          go_ret
          exact ⟨rfl, HBR.out⟩
        obtain ⟨hf3, ht3, hg3, hfit3, hlen3, hok3, hbk3, hsz3⟩ := HPO.out he3
        have z1 : ((e3 : Int) != 0) = false := by rw [he3]; rfl
        have HB3 := Lib.hid (fun W hW => pbuild_any f3 t3 g3 hf3 ht3 hg3 (.slice A3 l3.length k3) l3 (len_ok HC3.out hlen3) (fit_of HC3.out hfit3) W (HK3.out.below hW))
        rw [HC3.out] at HB3
        have HP4 := Lib.hid (fun W => pparse_any (buildP ⟨f3, t3, g3, L3⟩).1 (by omega) W)
        rw [hbk3] at HP4
        dsimp only at HP4
        rw [hok3] at HB3
        have HFIT3 := Lib.hid hfit3
        have HLEN3 := Lib.hid hlen3
        generalize (buildP ⟨f3, t3, g3, L3⟩).1 = B3 at *
        clear hf3 ht3 hg3 hfit3 hlen3 hok3 hbk3 hsz3 HPE HPO he3
        dsimp only [cellsP] at *
        go_wp2_with fail
        refine (HB3.out _ HKB.out).mono ?_
        rintro _ wb ⟨rfl, hbb⟩
        have HKB2 := Lib.hid (HKB.out.trans (hbb.mono HKB.out.size))
        clear c0 c1 c2 c3
        have hown : wb.heap[wp.heap.size]? = some (.cells #[.int .u16 (f3 : Int), .int .u16 (t3 : Int), .int .u32 (g3 : Int), .slice A3 l3.length k3] 26 (0, 0)) := (hbb.block _ (Array.getElem?_eq_some_iff.1 HKO.out).1).trans HKO.out
        have HO2 := Lib.hid hown
        clear hbb hown HKO HKB HB3
        go_wp2_with fail
        refine (HP4.out _).mono ?_
        rintro _ wx ⟨V4, l4, rfl, hk4, hc4, hb4⟩
        obtain ⟨A4, k4, rfl, -⟩ := hk4.slice
        have HKB4 := Lib.hid (HKB2.out.trans (hb4.mono HKB2.out.size))
        have hown := (hb4.block _ (Array.getElem?_eq_some_iff.1 HO2.out).1).trans HO2.out
        have HKN := Lib.hid (KnS.made hown (f' := f3) (t' := t3) (g' := g3) (.slice A4 l4.length k4))
        have hbn := (Below.refl wx.heap.size wx).alloc (Nat.le_refl _) (.cells (cellsP f3 t3 g3 (.slice A4 l4.length k4)) 26)
        have HR1 := Lib.hid (refK (f := f3) (t := t3) (g := g3) HFIT3.out HLEN3.out HC3.out (HK3.out.below (HKB4.out.trans (hbn.mono HKB4.out.size))))
        have HR2 := Lib.hid (refK (f := f3) (t := t3) (g := g3) HFIT3.out HLEN3.out hc4 (hk4.below hbn))
        have HSA := Lib.hid (sameK (f := f3) (t := t3) (g := g3) HFIT3.out HLEN3.out)
        have HBN := Lib.hid (HBP.out.trans (((HKB4.out.trans (hbn.mono HKB4.out.size))).mono HBP.out.size))
        clear hk4 hc4 hb4 hown hbn HKB2 HO2 HK3 HC3 HFIT3 HLEN3 HKB4 HP4 HBP
        dsimp only [cellsP] at *
        go_wp2_with fail
        generalize wx.alloc (.cells #[.int .u16 (f3 : Int), .int .u16 (t3 : Int), .int .u32 (g3 : Int), .slice A4 l4.length k4] 26) = wq at *
        refine wp_region_noPanic ?_
        refine wp_region_held_drew (S := (Below wq.heap.size wq)) (by kernel_rfl) ?_ (fun hHeld => ?_)
        · exact (Below.refl _ _).drew
        refine wpAnyH_take (i := 0) (v := ?_) (by simp only [List.getElem?_toArray, List.getElem?_cons_zero]; rfl) (by kernel_rfl) (by kernel_rfl) (by kernel_rfl) (fun _ _ _ h => h) (Or.inl ⟨by rfl, ?_⟩) (by assumption) ?_
        rotate_left 1
        · (intro w' hSw; obtain ⟨c0, c1, c2, c3, d0, d1, d2, d3⟩ := HKN.out.c hSw; clear hSw; go_simp; try with_reducible rfl)
        try simp only [Act.put, List.setIfInBounds_toArray, List.set_cons_zero, List.set_cons_succ]
        refine wpAnyH_take (i := 1) (v := ?_) (by simp only [List.getElem?_toArray, List.getElem?_cons_succ, List.getElem?_cons_zero]; rfl) (by kernel_rfl) (by kernel_rfl) (by kernel_rfl) (fun _ _ _ h => h) (Or.inl ⟨by rfl, ?_⟩) (by assumption) ?_
        rotate_left 1
        · (intro w' hSw; obtain ⟨c0, c1, c2, c3, d0, d1, d2, d3⟩ := HKN.out.c hSw; clear hSw; go_simp; try with_reducible rfl)
        try simp only [Act.put, List.setIfInBounds_toArray, List.set_cons_zero, List.set_cons_succ]
        refine wpAnyH_take (i := 2) (v := ?_) (by simp only [List.getElem?_toArray, List.getElem?_cons_succ, List.getElem?_cons_zero]; rfl) (by kernel_rfl) (by kernel_rfl) (by kernel_rfl) (fun _ _ _ h => h) (Or.inl ⟨by rfl, ?_⟩) (by assumption) ?_
        rotate_left 1
        · (intro w' hSw; obtain ⟨c0, c1, c2, c3, d0, d1, d2, d3⟩ := HKN.out.c hSw; clear hSw; go_simp; try with_reducible rfl)
        try simp only [Act.put, List.setIfInBounds_toArray, List.set_cons_zero, List.set_cons_succ]
        refine wpAnyH_take (i := 3) (v := ?_) (by simp only [List.getElem?_toArray, List.getElem?_cons_succ, List.getElem?_cons_zero]; rfl) (by kernel_rfl) (by kernel_rfl) (by kernel_rfl) (fun _ _ _ h => h) (Or.inl ⟨by rfl, ?_⟩) (by assumption) ?_
        rotate_left 1
        · (intro w' hSw; obtain ⟨c0, c1, c2, c3, d0, d1, d2, d3⟩ := HKN.out.c hSw; clear hSw; go_simp; try with_reducible rfl)
        try simp only [Act.put, List.setIfInBounds_toArray, List.set_cons_zero, List.set_cons_succ]
        refine wpAnyH_take (i := 4) (v := ?_) (by simp only [List.getElem?_toArray, List.getElem?_cons_succ, List.getElem?_cons_zero]; rfl) (by kernel_rfl) (by kernel_rfl) (by kernel_rfl) (fun _ _ _ h => h) (Or.inl ⟨by rfl, ?_⟩) (by assumption) ?_
        rotate_left 1
        · (intro w' hSw; obtain ⟨c0, c1, c2, c3, d0, d1, d2, d3⟩ := HKN.out.c hSw; clear hSw; go_simp; try with_reducible rfl)
        try simp only [Act.put, List.setIfInBounds_toArray, List.set_cons_zero, List.set_cons_succ]
        refine wpAnyH_take (i := 5) (v := ?_) (by simp only [List.getElem?_toArray, List.getElem?_cons_succ, List.getElem?_cons_zero]; rfl) (by kernel_rfl) (by kernel_rfl) (by kernel_rfl) (fun _ _ _ h => h) (Or.inl ⟨by rfl, ?_⟩) (by assumption) ?_
        rotate_left 1
        · (intro w' hSw; obtain ⟨c0, c1, c2, c3, d0, d1, d2, d3⟩ := HKN.out.c hSw; clear hSw; go_simp; try with_reducible rfl)
        try simp only [Act.put, List.setIfInBounds_toArray, List.set_cons_zero, List.set_cons_succ]
        refine wpAnyH_take (i := 6) (v := ?_) (by simp only [List.getElem?_toArray, List.getElem?_cons_succ, List.getElem?_cons_zero]; rfl) (by kernel_rfl) (by kernel_rfl) (by kernel_rfl) (fun _ _ _ h => h) (Or.inl ⟨by rfl, ?_⟩) (by assumption) ?_
        rotate_left 1
        · (intro w' hSw; obtain ⟨c0, c1, c2, c3, d0, d1, d2, d3⟩ := HKN.out.c hSw; clear hSw; go_simp; try with_reducible rfl)
        try simp only [Act.put, List.setIfInBounds_toArray, List.set_cons_zero, List.set_cons_succ]
        refine wpAnyH_take (i := 7) (v := ?_) (by simp only [List.getElem?_toArray, List.getElem?_cons_succ, List.getElem?_cons_zero]; rfl) (by kernel_rfl) (by kernel_rfl) (by kernel_rfl) (fun _ _ _ h => h) (Or.inl ⟨by rfl, ?_⟩) (by assumption) ?_
        rotate_left 1
        · (intro w' hSw; obtain ⟨c0, c1, c2, c3, d0, d1, d2, d3⟩ := HKN.out.c hSw; clear hSw; go_simp; try with_reducible rfl)
        try simp only [Act.put, List.setIfInBounds_toArray, List.set_cons_zero, List.set_cons_succ]
        refine wpAnyH_take (i := 9) (v := ?_) (by simp only [List.getElem?_toArray, List.getElem?_cons_succ, List.getElem?_cons_zero]; rfl) (by kernel_rfl) (by kernel_rfl) (by kernel_rfl) (fun _ _ _ h => h) (Or.inl ⟨by rfl, ?_⟩) (by assumption) ?_
        rotate_left 1
        · (intro w' hSw; obtain ⟨c0, c1, c2, c3, d0, d1, d2, d3⟩ := HKN.out.c hSw; clear hSw; go_simp; try with_reducible rfl)
        try simp only [Act.put, List.setIfInBounds_toArray, List.set_cons_zero, List.set_cons_succ]
        refine wpAnyH_ready (rs := [8]) (by kernel_rfl) (by simp) ?_
        refine AllReadyH.cons (by simp only [List.getElem?_toArray, List.getElem?_cons_succ, List.getElem?_cons_zero]; rfl) (fun K hK => ?_) AllReadyH.nil
        go_simp
        refine (HR1.out _ hHeld).mono ?_
        rintro _ wA ⟨AA, kA, lA, rfl, hkA, hcA, hbA⟩
        have hS := hHeld.trans (hbA.mono hHeld.size)
        clear hHeld
        go_wp2_with fail
        refine hK.out _ _ ?_ (fun hHeld => ?_)
        · exact hS
        clear hK K
        try simp only [Act.put, List.setIfInBounds_toArray, List.set_cons_zero, List.set_cons_succ]
        refine wpAnyH_ready (rs := [10]) (by kernel_rfl) (by simp) ?_
        refine AllReadyH.cons (by simp only [List.getElem?_toArray, List.getElem?_cons_succ, List.getElem?_cons_zero]; rfl) (fun K hK => ?_) AllReadyH.nil
        go_simp
        refine (HR2.out _ hHeld).mono ?_
        rintro _ wB ⟨AB, kB, lB, rfl, hkB, hcB, hbB⟩
        have hkA2 := hkA.below hbB
        have hS := hHeld.trans (hbB.mono hHeld.size)
        clear hHeld hbA hbB hkA
        go_wp2_with fail
        refine hK.out _ _ ?_ (fun hHeld => ?_)
        · exact hS
        clear hK K
        try simp only [Act.put, List.setIfInBounds_toArray, List.set_cons_zero, List.set_cons_succ]
        refine wpAnyH_ready (rs := [11]) (by kernel_rfl) (by simp) ?_
        refine AllReadyH.cons (by simp only [List.getElem?_toArray, List.getElem?_cons_succ, List.getElem?_cons_zero]; rfl) (fun K hK => ?_) AllReadyH.nil
        go_simp
        refine (HSA.out _ _ _ _ _ hkA2 hcA hkB hcB).mono ?_
        rintro _ wC ⟨rfl, hbC⟩
        have hS := hHeld.trans (hbC.mono hHeld.size)
        clear hHeld hbC hkA2 hkB hcA hcB
        go_wp2_with fail
        refine hK.out _ _ ?_ (fun hHeld => ?_)
        · exact hS
        clear hK K
        try simp only [Act.put, List.setIfInBounds_toArray, List.set_cons_zero, List.set_cons_succ]
        refine wpAnyH_take (i := 12) (v := ?_) (by simp only [List.getElem?_toArray, List.getElem?_cons_succ, List.getElem?_cons_zero]; rfl) (by kernel_rfl) (by kernel_rfl) (by kernel_rfl) (fun _ _ _ h => h) (Or.inl ⟨by rfl, ?_⟩) (by assumption) ?_
        rotate_left 1
        · (intro w' hSw; obtain ⟨c0, c1, c2, c3, d0, d1, d2, d3⟩ := HKN.out.c hSw; clear hSw; go_simp; try with_reducible rfl)
        try simp only [Act.put, List.setIfInBounds_toArray, List.set_cons_zero, List.set_cons_succ]
        refine wpAnyH_take (i := 13) (v := ?_) (by simp only [List.getElem?_toArray, List.getElem?_cons_succ, List.getElem?_cons_zero]; rfl) (by kernel_rfl) (by kernel_rfl) (by kernel_rfl) (fun _ _ _ h => h) (Or.inl ⟨by rfl, ?_⟩) (by assumption) ?_
        rotate_left 1
        · (intro w' hSw; obtain ⟨c0, c1, c2, c3, d0, d1, d2, d3⟩ := HKN.out.c hSw; clear hSw; go_simp; try with_reducible rfl)
        try simp only [Act.put, List.setIfInBounds_toArray, List.set_cons_zero, List.set_cons_succ]
        refine wpAnyH_done (by kernel_rfl) ?_ _
        refine NoPanic.normal ?_
        have hE := hHeld
        clear hHeld
        have HE := Lib.hid (HBN.out.trans (hE.mono HBN.out.size))
        clear hE
        go_wp2_with fail
        go_ret
        exact ⟨rfl, HE.out⟩
    · have z1 : decide ((0 : Int) ≤ a) = false := decide_eq_false h1
      clear hall h1
      go_wp2_with fail
      refine (HPT.out _).mono ?_
      rintro _ wp ⟨V3, l3, rfl, hk3, hc3, hb3⟩
      have HBP := Lib.hid (HB0.out.trans (hb3.mono HB0.out.size))
      obtain ⟨A3, k3, rfl, -⟩ := hk3.slice
      have HK3 := Lib.hid hk3
      have HC3 := Lib.hid hc3
      have HKO : Hid ((wp.alloc (.cells #[.int .u16 (f3 : Int), .int .u16 (t3 : Int), .int .u32 (g3 : Int), .slice A3 l3.length k3] 26)).heap[wp.heap.size]? = some (.cells #[.int .u16 (f3 : Int), .int .u16 (t3 : Int), .int .u32 (g3 : Int), .slice A3 l3.length k3] 26 (0, 0))) := Lib.hid (heap_alloc_new _ _)
      have HKB := Lib.hid ((Below.refl wp.heap.size wp).alloc (Nat.le_refl _) (.cells #[.int .u16 (f3 : Int), .int .u16 (t3 : Int), .int .u32 (g3 : Int), .slice A3 l3.length k3] 26))
      have c0 : (wp.alloc (.cells #[.int .u16 (f3 : Int), .int .u16 (t3 : Int), .int .u32 (g3 : Int), .slice A3 l3.length k3] 26)).cell? ⟨wp.heap.size, 0, none⟩ = some (.int .u16 (f3 : Int)) := by rw [cell_in HKO.out]; rfl
      have c1 : (wp.alloc (.cells #[.int .u16 (f3 : Int), .int .u16 (t3 : Int), .int .u32 (g3 : Int), .slice A3 l3.length k3] 26)).cell? ⟨wp.heap.size, 1, none⟩ = some (.int .u16 (t3 : Int)) := by rw [cell_in HKO.out]; rfl
      have c2 : (wp.alloc (.cells #[.int .u16 (f3 : Int), .int .u16 (t3 : Int), .int .u32 (g3 : Int), .slice A3 l3.length k3] 26)).cell? ⟨wp.heap.size, 2, none⟩ = some (.int .u32 (g3 : Int)) := by rw [cell_in HKO.out]; rfl
      have c3 : (wp.alloc (.cells #[.int .u16 (f3 : Int), .int .u16 (t3 : Int), .int .u32 (g3 : Int), .slice A3 l3.length k3] 26)).cell? ⟨wp.heap.size, 3, none⟩ = some (.slice A3 l3.length k3) := by rw [cell_in HKO.out]; rfl
      clear hk3 hc3 hb3 HB0 HPT
      by_cases he3 : e3 = 0
      case neg =>
        obtain ⟨hf3, ht3, hg3, hL3⟩ := HPE.out he3
        have hl3 : l3.length = 0 := by have := congrArg List.length HC3.out; rw [ckV_length, hL3] at this; exact this
        have z1 : ((e3 : Int) != 0) = true := bne_iff_ne.2 (by omega)
        have z2 : ((l3.length : Int) == 0) = true := beq_iff_eq.2 (by omega)
        have HRZ := Lib.hid (fun W hW => right_none hf3 ht3 hg3 (.slice A3 l3.length k3) l3 hl3 W (HK3.out.below hW))
        clear hl3 hL3 hf3 ht3 hg3 he3 HPE HPO HC3 HK3
        dsimp only [cellsP] at *
        go_wp2_with fail
        refine (HRZ.out _ HKB.out).mono ?_
        rintro _ wr ⟨rfl, hbr⟩
        have HBR := Lib.hid (HBP.out.trans ((HKB.out.trans (hbr.mono HKB.out.size)).mono HBP.out.size))
        clear hbr
        go_wp2_with fail
        go_ret
        exact ⟨rfl, HBR.out⟩
      obtain ⟨hf3, ht3, hg3, hfit3, hlen3, hok3, hbk3, hsz3⟩ := HPO.out he3
      have z1 : ((e3 : Int) != 0) = false := by rw [he3]; rfl
      have HB3 := Lib.hid (fun W hW => pbuild_any f3 t3 g3 hf3 ht3 hg3 (.slice A3 l3.length k3) l3 (len_ok HC3.out hlen3) (fit_of HC3.out hfit3) W (HK3.out.below hW))
      rw [HC3.out] at HB3
      have HP4 := Lib.hid (fun W => pparse_any (buildP ⟨f3, t3, g3, L3⟩).1 (by omega) W)
      rw [hbk3] at HP4
      dsimp only at HP4
      rw [hok3] at HB3
      have HFIT3 := Lib.hid hfit3
      have HLEN3 := Lib.hid hlen3
      generalize (buildP ⟨f3, t3, g3, L3⟩).1 = B3 at *
      clear hf3 ht3 hg3 hfit3 hlen3 hok3 hbk3 hsz3 HPE HPO he3
      dsimp only [cellsP] at *
      go_wp2_with fail
      refine (HB3.out _ HKB.out).mono ?_
      rintro _ wb ⟨rfl, hbb⟩
      have HKB2 := Lib.hid (HKB.out.trans (hbb.mono HKB.out.size))
      clear c0 c1 c2 c3
      have hown : wb.heap[wp.heap.size]? = some (.cells #[.int .u16 (f3 : Int), .int .u16 (t3 : Int), .int .u32 (g3 : Int), .slice A3 l3.length k3] 26 (0, 0)) := (hbb.block _ (Array.getElem?_eq_some_iff.1 HKO.out).1).trans HKO.out
      have HO2 := Lib.hid hown
      clear hbb hown HKO HKB HB3
      go_wp2_with fail
      refine (HP4.out _).mono ?_
      rintro _ wx ⟨V4, l4, rfl, hk4, hc4, hb4⟩
      obtain ⟨A4, k4, rfl, -⟩ := hk4.slice
      have HKB4 := Lib.hid (HKB2.out.trans (hb4.mono HKB2.out.size))
      have hown := (hb4.block _ (Array.getElem?_eq_some_iff.1 HO2.out).1).trans HO2.out
      have HKN := Lib.hid (KnS.made hown (f' := f3) (t' := t3) (g' := g3) (.slice A4 l4.length k4))
      have hbn := (Below.refl wx.heap.size wx).alloc (Nat.le_refl _) (.cells (cellsP f3 t3 g3 (.slice A4 l4.length k4)) 26)
      have HR1 := Lib.hid (refK (f := f3) (t := t3) (g := g3) HFIT3.out HLEN3.out HC3.out (HK3.out.below (HKB4.out.trans (hbn.mono HKB4.out.size))))
      have HR2 := Lib.hid (refK (f := f3) (t := t3) (g := g3) HFIT3.out HLEN3.out hc4 (hk4.below hbn))
      have HSA := Lib.hid (sameK (f := f3) (t := t3) (g := g3) HFIT3.out HLEN3.out)
      have HBN := Lib.hid (HBP.out.trans (((HKB4.out.trans (hbn.mono HKB4.out.size))).mono HBP.out.size))
      clear hk4 hc4 hb4 hown hbn HKB2 HO2 HK3 HC3 HFIT3 HLEN3 HKB4 HP4 HBP
      dsimp only [cellsP] at *
      go_wp2_with fail
      generalize wx.alloc (.cells #[.int .u16 (f3 : Int), .int .u16 (t3 : Int), .int .u32 (g3 : Int), .slice A4 l4.length k4] 26) = wq at *
      refine wp_region_noPanic ?_
      refine wp_region_held_drew (S := (Below wq.heap.size wq)) (by kernel_rfl) ?_ (fun hHeld => ?_)
      · exact (Below.refl _ _).drew
      refine wpAnyH_take (i := 0) (v := ?_) (by simp only [List.getElem?_toArray, List.getElem?_cons_zero]; rfl) (by kernel_rfl) (by kernel_rfl) (by kernel_rfl) (fun _ _ _ h => h) (Or.inl ⟨by rfl, ?_⟩) (by assumption) ?_
      rotate_left 1
      · (intro w' hSw; obtain ⟨c0, c1, c2, c3, d0, d1, d2, d3⟩ := HKN.out.c hSw; clear hSw; go_simp; try with_reducible rfl)
      try simp only [Act.put, List.setIfInBounds_toArray, List.set_cons_zero, List.set_cons_succ]
      refine wpAnyH_take (i := 1) (v := ?_) (by simp only [List.getElem?_toArray, List.getElem?_cons_succ, List.getElem?_cons_zero]; rfl) (by kernel_rfl) (by kernel_rfl) (by kernel_rfl) (fun _ _ _ h => h) (Or.inl ⟨by rfl, ?_⟩) (by assumption) ?_
      rotate_left 1
      · (intro w' hSw; obtain ⟨c0, c1, c2, c3, d0, d1, d2, d3⟩ := HKN.out.c hSw; clear hSw; go_simp; try with_reducible rfl)
      try simp only [Act.put, List.setIfInBounds_toArray, List.set_cons_zero, List.set_cons_succ]
      refine wpAnyH_take (i := 2) (v := ?_) (by simp only [List.getElem?_toArray, List.getElem?_cons_succ, List.getElem?_cons_zero]; rfl) (by kernel_rfl) (by kernel_rfl) (by kernel_rfl) (fun _ _ _ h => h) (Or.inl ⟨by rfl, ?_⟩) (by assumption) ?_
      rotate_left 1
      · (intro w' hSw; obtain ⟨c0, c1, c2, c3, d0, d1, d2, d3⟩ := HKN.out.c hSw; clear hSw; go_simp; try with_reducible rfl)
      try simp only [Act.put, List.setIfInBounds_toArray, List.set_cons_zero, List.set_cons_succ]
      refine wpAnyH_take (i := 3) (v := ?_) (by simp only [List.getElem?_toArray, List.getElem?_cons_succ, List.getElem?_cons_zero]; rfl) (by kernel_rfl) (by kernel_rfl) (by kernel_rfl) (fun _ _ _ h => h) (Or.inl ⟨by rfl, ?_⟩) (by assumption) ?_
      rotate_left 1
      · (intro w' hSw; obtain ⟨c0, c1, c2, c3, d0, d1, d2, d3⟩ := HKN.out.c hSw; clear hSw; go_simp; try with_reducible rfl)
      try simp only [Act.put, List.setIfInBounds_toArray, List.set_cons_zero, List.set_cons_succ]
      refine wpAnyH_take (i := 4) (v := ?_) (by simp only [List.getElem?_toArray, List.getElem?_cons_succ, List.getElem?_cons_zero]; rfl) (by kernel_rfl) (by kernel_rfl) (by kernel_rfl) (fun _ _ _ h => h) (Or.inl ⟨by rfl, ?_⟩) (by assumption) ?_
      rotate_left 1
      · (intro w' hSw; obtain ⟨c0, c1, c2, c3, d0, d1, d2, d3⟩ := HKN.out.c hSw; clear hSw; go_simp; try with_reducible rfl)
      try simp only [Act.put, List.setIfInBounds_toArray, List.set_cons_zero, List.set_cons_succ]
      refine wpAnyH_take (i := 5) (v := ?_) (by simp only [List.getElem?_toArray, List.getElem?_cons_succ, List.getElem?_cons_zero]; rfl) (by kernel_rfl) (by kernel_rfl) (by kernel_rfl) (fun _ _ _ h => h) (Or.inl ⟨by rfl, ?_⟩) (by assumption) ?_
      rotate_left 1
      · (intro w' hSw; obtain ⟨c0, c1, c2, c3, d0, d1, d2, d3⟩ := HKN.out.c hSw; clear hSw; go_simp; try with_reducible rfl)
      try simp only [Act.put, List.setIfInBounds_toArray, List.set_cons_zero, List.set_cons_succ]
      refine wpAnyH_take (i := 6) (v := ?_) (by simp only [List.getElem?_toArray, List.getElem?_cons_succ, List.getElem?_cons_zero]; rfl) (by kernel_rfl) (by kernel_rfl) (by kernel_rfl) (fun _ _ _ h => h) (Or.inl ⟨by rfl, ?_⟩) (by assumption) ?_
      rotate_left 1
      · (intro w' hSw; obtain ⟨c0, c1, c2, c3, d0, d1, d2, d3⟩ := HKN.out.c hSw; clear hSw; go_simp; try with_reducible rfl)
      try simp only [Act.put, List.setIfInBounds_toArray, List.set_cons_zero, List.set_cons_succ]
      refine wpAnyH_take (i := 7) (v := ?_) (by simp only [List.getElem?_toArray, List.getElem?_cons_succ, List.getElem?_cons_zero]; rfl) (by kernel_rfl) (by kernel_rfl) (by kernel_rfl) (fun _ _ _ h => h) (Or.inl ⟨by rfl, ?_⟩) (by assumption) ?_
      rotate_left 1
      · (intro w' hSw; obtain ⟨c0, c1, c2, c3, d0, d1, d2, d3⟩ := HKN.out.c hSw; clear hSw; go_simp; try with_reducible rfl)
      try simp only [Act.put, List.setIfInBounds_toArray, List.set_cons_zero, List.set_cons_succ]
      refine wpAnyH_take (i := 9) (v := ?_) (by simp only [List.getElem?_toArray, List.getElem?_cons_succ, List.getElem?_cons_zero]; rfl) (by kernel_rfl) (by kernel_rfl) (by kernel_rfl) (fun _ _ _ h => h) (Or.inl ⟨by rfl, ?_⟩) (by assumption) ?_
      rotate_left 1
      · (intro w' hSw; obtain ⟨c0, c1, c2, c3, d0, d1, d2, d3⟩ := HKN.out.c hSw; clear hSw; go_simp; try with_reducible rfl)
      try simp only [Act.put, List.setIfInBounds_toArray, List.set_cons_zero, List.set_cons_succ]
      refine wpAnyH_ready (rs := [8]) (by kernel_rfl) (by simp) ?_
      refine AllReadyH.cons (by simp only [List.getElem?_toArray, List.getElem?_cons_succ, List.getElem?_cons_zero]; rfl) (fun K hK => ?_) AllReadyH.nil
      go_simp
      refine (HR1.out _ hHeld).mono ?_
      rintro _ wA ⟨AA, kA, lA, rfl, hkA, hcA, hbA⟩
      have hS := hHeld.trans (hbA.mono hHeld.size)
      clear hHeld
      go_wp2_with fail
      refine hK.out _ _ ?_ (fun hHeld => ?_)
      · exact hS
      clear hK K
      try simp only [Act.put, List.setIfInBounds_toArray, List.set_cons_zero, List.set_cons_succ]
      refine wpAnyH_ready (rs := [10]) (by kernel_rfl) (by simp) ?_
      refine AllReadyH.cons (by simp only [List.getElem?_toArray, List.getElem?_cons_succ, List.getElem?_cons_zero]; rfl) (fun K hK => ?_) AllReadyH.nil
      go_simp
      refine (HR2.out _ hHeld).mono ?_
      rintro _ wB ⟨AB, kB, lB, rfl, hkB, hcB, hbB⟩
      have hkA2 := hkA.below hbB
      have hS := hHeld.trans (hbB.mono hHeld.size)
      clear hHeld hbA hbB hkA
      go_wp2_with fail
      refine hK.out _ _ ?_ (fun hHeld => ?_)
      · exact hS
      clear hK K
      try simp only [Act.put, List.setIfInBounds_toArray, List.set_cons_zero, List.set_cons_succ]
      refine wpAnyH_ready (rs := [11]) (by kernel_rfl) (by simp) ?_
      refine AllReadyH.cons (by simp only [List.getElem?_toArray, List.getElem?_cons_succ, List.getElem?_cons_zero]; rfl) (fun K hK => ?_) AllReadyH.nil
      go_simp
      refine (HSA.out _ _ _ _ _ hkA2 hcA hkB hcB).mono ?_
      rintro _ wC ⟨rfl, hbC⟩
      have hS := hHeld.trans (hbC.mono hHeld.size)
      clear hHeld hbC hkA2 hkB hcA hcB
      go_wp2_with fail
      refine hK.out _ _ ?_ (fun hHeld => ?_)
      · exact hS
      clear hK K
      try simp only [Act.put, List.setIfInBounds_toArray, List.set_cons_zero, List.set_cons_succ]
      refine wpAnyH_take (i := 12) (v := ?_) (by simp only [List.getElem?_toArray, List.getElem?_cons_succ, List.getElem?_cons_zero]; rfl) (by kernel_rfl) (by kernel_rfl) (by kernel_rfl) (fun _ _ _ h => h) (Or.inl ⟨by rfl, ?_⟩) (by assumption) ?_
      rotate_left 1
      · (intro w' hSw; obtain ⟨c0, c1, c2, c3, d0, d1, d2, d3⟩ := HKN.out.c hSw; clear hSw; go_simp; try with_reducible rfl)
      try simp only [Act.put, List.setIfInBounds_toArray, List.set_cons_zero, List.set_cons_succ]
      refine wpAnyH_take (i := 13) (v := ?_) (by simp only [List.getElem?_toArray, List.getElem?_cons_succ, List.getElem?_cons_zero]; rfl) (by kernel_rfl) (by kernel_rfl) (by kernel_rfl) (fun _ _ _ h => h) (Or.inl ⟨by rfl, ?_⟩) (by assumption) ?_
      rotate_left 1
      · (intro w' hSw; obtain ⟨c0, c1, c2, c3, d0, d1, d2, d3⟩ := HKN.out.c hSw; clear hSw; go_simp; try with_reducible rfl)
      try simp only [Act.put, List.setIfInBounds_toArray, List.set_cons_zero, List.set_cons_succ]
      refine wpAnyH_done (by kernel_rfl) ?_ _
      refine NoPanic.normal ?_
      have hE := hHeld
      clear hHeld
      have HE := Lib.hid (HBN.out.trans (hE.mono HBN.out.size))
      clear hE
      go_wp2_with fail
      go_ret
      exact ⟨rfl, HE.out⟩
  have hx0 : x ≠ 0 := hall.2.2
  obtain ⟨k, rfl⟩ : ∃ k : Nat, a = (k : Int) := ⟨a.toNat, by omega⟩
  have hkl : k < bs.size := by omega
  have hkl2 : k < bs.data.toList.length := by rw [← size_list]; exact hkl
  have y0 : (0 : Int) ≤ (k : Int) := by omega
  have y1 : (k : Int) < (bs.size : Int) := by omega
  have y2 : ((x : Int) != 0) = true := bne_iff_ne.2 (by omega)
  have y3 : decide ((0 : Int) ≤ (k : Int)) = true := decide_eq_true y0
  have y4 : decide ((k : Int) < (bs.size : Int)) = true := decide_eq_true y1
  have hcell := bytes_cell wD 5 bs (List.getElem?_eq_getElem hkl2)
  have hfree := bytes_free wD 5 bs (j := k) hkl
  have hby := bytes_of wD bs
  have hB2 := bytes_below HBD.out HBD.out.size 5 bs
  have hset := fun (y : UInt8) => text_of ((Lib.bytesWorld wD 5 bs).setCell ⟨wD.heap.size, k, none⟩ (.int .u8 (y.toNat : Int))) wD.heap.size 0 (grownCap wD bs.size 0 5) (bs.data.toList.set k y)
    (set_cells hkl2 y fun j u hu => by rw [Nat.zero_add]; exact bytes_cell wD 5 bs hu)
  have hlen : ∀ y : UInt8, (bs.data.toList.set k y).length = bs.size := fun y => by rw [List.length_set, ← size_list]
  have hB3 := fun (y : UInt8) => hB2.setCell (p := ⟨wD.heap.size, k, none⟩) HBD.out.size (.int .u8 (y.toNat : Int))
  have hgs : wD.heap.size < (Lib.bytesWorld wD 5 bs).heap.size := by rw [Lib.bytesWorld_size]; omega
  have hTk := fun (q : ByteArray) (y : UInt8) => HTN.out q k hkl2 y
  have HB3 := Lib.hid hB3
  have HTK := Lib.hid hTk
  clear hB2 hB3 hTk hall ha1 ha2
  generalize bs.data.toList[k] = u at *
  have hul := u.toNat_lt
  obtain ⟨y, hy⟩ : ∃ y : UInt8, y.toNat = u.toNat ^^^ x := ⟨UInt8.ofNat (u.toNat ^^^ x), UInt8.toNat_ofNat_of_lt' (xor_lt8 hul hx)⟩
  have hxx := u8_xor_nat u.toNat x hul hx
  rw [← hy] at hxx
  have hyu : y ≠ u := by
    rintro rfl
    apply hx0
    have e : y.toNat ^^^ x = y.toNat ^^^ 0 := by rw [← hy, Nat.xor_zero]
    exact xor_cancel_left e
  replace hset := hset y
  rw [hlen y] at hset
  replace HB3 := Lib.hid (HB3.out y)
  obtain ⟨q, hq⟩ : ∃ q : ByteArray, q = ⟨(bs.data.toList.set k y).toArray⟩ := ⟨_, rfl⟩
  rw [← hq] at hset
  have hpq := HTK.out q y hyu (by rw [hq])
  have hqs : q.size = bs.size := by rw [hq, size_list]; exact hlen y
  have HPQ := Lib.hid (fun W => pparse_any q (by omega) W)
  rw [hpq] at HPQ
  dsimp only at HPQ
  clear hpq hqs hq HTK hlen hy hyu hx0 HTN
  generalize Lib.bytesWorld wD 5 bs = wb0 at *
  generalize zeroP.f = zf at *
  generalize zeroP.t = zt at *
  generalize zeroP.g = zg at *
  go_wp2_with fail
  refine (HPQ.out _).mono ?_
  rintro _ w6 ⟨V6, l6, rfl, hk6, -, hb6⟩
  obtain ⟨A6, k6, rfl, -⟩ := hk6.slice
  have HB6 := HB3.out.trans (hb6.mono HB3.out.size)
  have HB0 := Lib.hid (HB6.alloc HB6.size (.cells #[.int .u16 (zf : Int), .int .u16 (zt : Int), .int .u32 (zg : Int), .slice A6 l6.length k6] 26))
  clear hk6 hb6 HB6 HPQ HB3 hset hby hcell hfree hgs hxx hul
  dsimp only [cellsP] at *
  go_wp2_with fail
  refine (HPT.out _).mono ?_
  rintro _ wp ⟨V3, l3, rfl, hk3, hc3, hb3⟩
  have HBP := Lib.hid (HB0.out.trans (hb3.mono HB0.out.size))
  obtain ⟨A3, k3, rfl, -⟩ := hk3.slice
  have HK3 := Lib.hid hk3
  have HC3 := Lib.hid hc3
  have HKO : Hid ((wp.alloc (.cells #[.int .u16 (f3 : Int), .int .u16 (t3 : Int), .int .u32 (g3 : Int), .slice A3 l3.length k3] 26)).heap[wp.heap.size]? = some (.cells #[.int .u16 (f3 : Int), .int .u16 (t3 : Int), .int .u32 (g3 : Int), .slice A3 l3.length k3] 26 (0, 0))) := Lib.hid (heap_alloc_new _ _)
  have HKB := Lib.hid ((Below.refl wp.heap.size wp).alloc (Nat.le_refl _) (.cells #[.int .u16 (f3 : Int), .int .u16 (t3 : Int), .int .u32 (g3 : Int), .slice A3 l3.length k3] 26))
  have c0 : (wp.alloc (.cells #[.int .u16 (f3 : Int), .int .u16 (t3 : Int), .int .u32 (g3 : Int), .slice A3 l3.length k3] 26)).cell? ⟨wp.heap.size, 0, none⟩ = some (.int .u16 (f3 : Int)) := by rw [cell_in HKO.out]; rfl
  have c1 : (wp.alloc (.cells #[.int .u16 (f3 : Int), .int .u16 (t3 : Int), .int .u32 (g3 : Int), .slice A3 l3.length k3] 26)).cell? ⟨wp.heap.size, 1, none⟩ = some (.int .u16 (t3 : Int)) := by rw [cell_in HKO.out]; rfl
  have c2 : (wp.alloc (.cells #[.int .u16 (f3 : Int), .int .u16 (t3 : Int), .int .u32 (g3 : Int), .slice A3 l3.length k3] 26)).cell? ⟨wp.heap.size, 2, none⟩ = some (.int .u32 (g3 : Int)) := by rw [cell_in HKO.out]; rfl
  have c3 : (wp.alloc (.cells #[.int .u16 (f3 : Int), .int .u16 (t3 : Int), .int .u32 (g3 : Int), .slice A3 l3.length k3] 26)).cell? ⟨wp.heap.size, 3, none⟩ = some (.slice A3 l3.length k3) := by rw [cell_in HKO.out]; rfl
  clear hk3 hc3 hb3 HB0 HPT
  by_cases he3 : e3 = 0
  case neg =>
    obtain ⟨hf3, ht3, hg3, hL3⟩ := HPE.out he3
    have hl3 : l3.length = 0 := by have := congrArg List.length HC3.out; rw [ckV_length, hL3] at this; exact this
    have z1 : ((e3 : Int) != 0) = true := bne_iff_ne.2 (by omega)
    have z2 : ((l3.length : Int) == 0) = true := beq_iff_eq.2 (by omega)
    have HRZ := Lib.hid (fun W hW => right_none hf3 ht3 hg3 (.slice A3 l3.length k3) l3 hl3 W (HK3.out.below hW))
    clear hl3 hL3 hf3 ht3 hg3 he3 HPE HPO HC3 HK3
    dsimp only [cellsP] at *
    go_wp2_with fail
    refine (HRZ.out _ HKB.out).mono ?_
    rintro _ wr ⟨rfl, hbr⟩
    have HBR := Lib.hid (HBP.out.trans ((HKB.out.trans (hbr.mono HKB.out.size)).mono HBP.out.size))
    clear hbr
    go_wp2_with fail
    go_ret
    exact ⟨rfl, HBR.out⟩
  obtain ⟨hf3, ht3, hg3, hfit3, hlen3, hok3, hbk3, hsz3⟩ := HPO.out he3
  have z1 : ((e3 : Int) != 0) = false := by rw [he3]; rfl
  have HB3 := Lib.hid (fun W hW => pbuild_any f3 t3 g3 hf3 ht3 hg3 (.slice A3 l3.length k3) l3 (len_ok HC3.out hlen3) (fit_of HC3.out hfit3) W (HK3.out.below hW))
  rw [HC3.out] at HB3
  have HP4 := Lib.hid (fun W => pparse_any (buildP ⟨f3, t3, g3, L3⟩).1 (by omega) W)
  rw [hbk3] at HP4
  dsimp only at HP4
  rw [hok3] at HB3
  have HFIT3 := Lib.hid hfit3
  have HLEN3 := Lib.hid hlen3
  generalize (buildP ⟨f3, t3, g3, L3⟩).1 = B3 at *
  clear hf3 ht3 hg3 hfit3 hlen3 hok3 hbk3 hsz3 HPE HPO he3
  dsimp only [cellsP] at *
  go_wp2_with fail
  refine (HB3.out _ HKB.out).mono ?_
  rintro _ wb ⟨rfl, hbb⟩
  have HKB2 := Lib.hid (HKB.out.trans (hbb.mono HKB.out.size))
  clear c0 c1 c2 c3
  have hown : wb.heap[wp.heap.size]? = some (.cells #[.int .u16 (f3 : Int), .int .u16 (t3 : Int), .int .u32 (g3 : Int), .slice A3 l3.length k3] 26 (0, 0)) := (hbb.block _ (Array.getElem?_eq_some_iff.1 HKO.out).1).trans HKO.out
  have HO2 := Lib.hid hown
  clear hbb hown HKO HKB HB3
  go_wp2_with fail
  refine (HP4.out _).mono ?_
  rintro _ wx ⟨V4, l4, rfl, hk4, hc4, hb4⟩
  obtain ⟨A4, k4, rfl, -⟩ := hk4.slice
  have HKB4 := Lib.hid (HKB2.out.trans (hb4.mono HKB2.out.size))
  have hown := (hb4.block _ (Array.getElem?_eq_some_iff.1 HO2.out).1).trans HO2.out
  have HKN := Lib.hid (KnS.made hown (f' := f3) (t' := t3) (g' := g3) (.slice A4 l4.length k4))
  have hbn := (Below.refl wx.heap.size wx).alloc (Nat.le_refl _) (.cells (cellsP f3 t3 g3 (.slice A4 l4.length k4)) 26)
  have HR1 := Lib.hid (refK (f := f3) (t := t3) (g := g3) HFIT3.out HLEN3.out HC3.out (HK3.out.below (HKB4.out.trans (hbn.mono HKB4.out.size))))
  have HR2 := Lib.hid (refK (f := f3) (t := t3) (g := g3) HFIT3.out HLEN3.out hc4 (hk4.below hbn))
  have HSA := Lib.hid (sameK (f := f3) (t := t3) (g := g3) HFIT3.out HLEN3.out)
  have HBN := Lib.hid (HBP.out.trans (((HKB4.out.trans (hbn.mono HKB4.out.size))).mono HBP.out.size))
  clear hk4 hc4 hb4 hown hbn HKB2 HO2 HK3 HC3 HFIT3 HLEN3 HKB4 HP4 HBP
  dsimp only [cellsP] at *
  go_wp2_with fail
  generalize wx.alloc (.cells #[.int .u16 (f3 : Int), .int .u16 (t3 : Int), .int .u32 (g3 : Int), .slice A4 l4.length k4] 26) = wq at *
  refine wp_region_noPanic ?_
  refine wp_region_held_drew (S := (Below wq.heap.size wq)) (by kernel_rfl) ?_ (fun hHeld => ?_)
  · exact (Below.refl _ _).drew
  refine wpAnyH_take (i := 0) (v := ?_) (by simp only [List.getElem?_toArray, List.getElem?_cons_zero]; rfl) (by kernel_rfl) (by kernel_rfl) (by kernel_rfl) (fun _ _ _ h => h) (Or.inl ⟨by rfl, ?_⟩) (by assumption) ?_
  rotate_left 1
  · (intro w' hSw; obtain ⟨c0, c1, c2, c3, d0, d1, d2, d3⟩ := HKN.out.c hSw; clear hSw; go_simp; try with_reducible rfl)
  try simp only [Act.put, List.setIfInBounds_toArray, List.set_cons_zero, List.set_cons_succ]
  refine wpAnyH_take (i := 1) (v := ?_) (by simp only [List.getElem?_toArray, List.getElem?_cons_succ, List.getElem?_cons_zero]; rfl) (by kernel_rfl) (by kernel_rfl) (by kernel_rfl) (fun _ _ _ h => h) (Or.inl ⟨by rfl, ?_⟩) (by assumption) ?_
  rotate_left 1
  · (intro w' hSw; obtain ⟨c0, c1, c2, c3, d0, d1, d2, d3⟩ := HKN.out.c hSw; clear hSw; go_simp; try with_reducible rfl)
  try simp only [Act.put, List.setIfInBounds_toArray, List.set_cons_zero, List.set_cons_succ]
  refine wpAnyH_take (i := 2) (v := ?_) (by simp only [List.getElem?_toArray, List.getElem?_cons_succ, List.getElem?_cons_zero]; rfl) (by kernel_rfl) (by kernel_rfl) (by kernel_rfl) (fun _ _ _ h => h) (Or.inl ⟨by rfl, ?_⟩) (by assumption) ?_
  rotate_left 1
  · (intro w' hSw; obtain ⟨c0, c1, c2, c3, d0, d1, d2, d3⟩ := HKN.out.c hSw; clear hSw; go_simp; try with_reducible rfl)
  try simp only [Act.put, List.setIfInBounds_toArray, List.set_cons_zero, List.set_cons_succ]
  refine wpAnyH_take (i := 3) (v := ?_) (by simp only [List.getElem?_toArray, List.getElem?_cons_succ, List.getElem?_cons_zero]; rfl) (by kernel_rfl) (by kernel_rfl) (by kernel_rfl) (fun _ _ _ h => h) (Or.inl ⟨by rfl, ?_⟩) (by assumption) ?_
  rotate_left 1
  · (intro w' hSw; obtain ⟨c0, c1, c2, c3, d0, d1, d2, d3⟩ := HKN.out.c hSw; clear hSw; go_simp; try with_reducible rfl)
  try simp only [Act.put, List.setIfInBounds_toArray, List.set_cons_zero, List.set_cons_succ]
  refine wpAnyH_take (i := 4) (v := ?_) (by simp only [List.getElem?_toArray, List.getElem?_cons_succ, List.getElem?_cons_zero]; rfl) (by kernel_rfl) (by kernel_rfl) (by kernel_rfl) (fun _ _ _ h => h) (Or.inl ⟨by rfl, ?_⟩) (by assumption) ?_
  rotate_left 1
  · (intro w' hSw; obtain ⟨c0, c1, c2, c3, d0, d1, d2, d3⟩ := HKN.out.c hSw; clear hSw; go_simp; try with_reducible rfl)
  try simp only [Act.put, List.setIfInBounds_toArray, List.set_cons_zero, List.set_cons_succ]
  refine wpAnyH_take (i := 5) (v := ?_) (by simp only [List.getElem?_toArray, List.getElem?_cons_succ, List.getElem?_cons_zero]; rfl) (by kernel_rfl) (by kernel_rfl) (by kernel_rfl) (fun _ _ _ h => h) (Or.inl ⟨by rfl, ?_⟩) (by assumption) ?_
  rotate_left 1
  · (intro w' hSw; obtain ⟨c0, c1, c2, c3, d0, d1, d2, d3⟩ := HKN.out.c hSw; clear hSw; go_simp; try with_reducible rfl)
  try simp only [Act.put, List.setIfInBounds_toArray, List.set_cons_zero, List.set_cons_succ]
  refine wpAnyH_take (i := 6) (v := ?_) (by simp only [List.getElem?_toArray, List.getElem?_cons_succ, List.getElem?_cons_zero]; rfl) (by kernel_rfl) (by kernel_rfl) (by kernel_rfl) (fun _ _ _ h => h) (Or.inl ⟨by rfl, ?_⟩) (by assumption) ?_
  rotate_left 1
  · (intro w' hSw; obtain ⟨c0, c1, c2, c3, d0, d1, d2, d3⟩ := HKN.out.c hSw; clear hSw; go_simp; try with_reducible rfl)
  try simp only [Act.put, List.setIfInBounds_toArray, List.set_cons_zero, List.set_cons_succ]
  refine wpAnyH_take (i := 7) (v := ?_) (by simp only [List.getElem?_toArray, List.getElem?_cons_succ, List.getElem?_cons_zero]; rfl) (by kernel_rfl) (by kernel_rfl) (by kernel_rfl) (fun _ _ _ h => h) (Or.inl ⟨by rfl, ?_⟩) (by assumption) ?_
  rotate_left 1
  · (intro w' hSw; obtain ⟨c0, c1, c2, c3, d0, d1, d2, d3⟩ := HKN.out.c hSw; clear hSw; go_simp; try with_reducible rfl)
  try simp only [Act.put, List.setIfInBounds_toArray, List.set_cons_zero, List.set_cons_succ]
  refine wpAnyH_take (i := 9) (v := ?_) (by simp only [List.getElem?_toArray, List.getElem?_cons_succ, List.getElem?_cons_zero]; rfl) (by kernel_rfl) (by kernel_rfl) (by kernel_rfl) (fun _ _ _ h => h) (Or.inl ⟨by rfl, ?_⟩) (by assumption) ?_
  rotate_left 1
  · (intro w' hSw; obtain ⟨c0, c1, c2, c3, d0, d1, d2, d3⟩ := HKN.out.c hSw; clear hSw; go_simp; try with_reducible rfl)
  try simp only [Act.put, List.setIfInBounds_toArray, List.set_cons_zero, List.set_cons_succ]
  refine wpAnyH_ready (rs := [8]) (by kernel_rfl) (by simp) ?_
  refine AllReadyH.cons (by simp only [List.getElem?_toArray, List.getElem?_cons_succ, List.getElem?_cons_zero]; rfl) (fun K hK => ?_) AllReadyH.nil
  go_simp
  refine (HR1.out _ hHeld).mono ?_
  rintro _ wA ⟨AA, kA, lA, rfl, hkA, hcA, hbA⟩
  have hS := hHeld.trans (hbA.mono hHeld.size)
  clear hHeld
  go_wp2_with fail
  refine hK.out _ _ ?_ (fun hHeld => ?_)
  · exact hS
  clear hK K
  try simp only [Act.put, List.setIfInBounds_toArray, List.set_cons_zero, List.set_cons_succ]
  refine wpAnyH_ready (rs := [10]) (by kernel_rfl) (by simp) ?_
  refine AllReadyH.cons (by simp only [List.getElem?_toArray, List.getElem?_cons_succ, List.getElem?_cons_zero]; rfl) (fun K hK => ?_) AllReadyH.nil
  go_simp
  refine (HR2.out _ hHeld).mono ?_
  rintro _ wB ⟨AB, kB, lB, rfl, hkB, hcB, hbB⟩
  have hkA2 := hkA.below hbB
  have hS := hHeld.trans (hbB.mono hHeld.size)
  clear hHeld hbA hbB hkA
  go_wp2_with fail
  refine hK.out _ _ ?_ (fun hHeld => ?_)
  · exact hS
  clear hK K
  try simp only [Act.put, List.setIfInBounds_toArray, List.set_cons_zero, List.set_cons_succ]
  refine wpAnyH_ready (rs := [11]) (by kernel_rfl) (by simp) ?_
  refine AllReadyH.cons (by simp only [List.getElem?_toArray, List.getElem?_cons_succ, List.getElem?_cons_zero]; rfl) (fun K hK => ?_) AllReadyH.nil
  go_simp
  refine (HSA.out _ _ _ _ _ hkA2 hcA hkB hcB).mono ?_
  rintro _ wC ⟨rfl, hbC⟩
  have hS := hHeld.trans (hbC.mono hHeld.size)
  clear hHeld hbC hkA2 hkB hcA hcB
  go_wp2_with fail
  refine hK.out _ _ ?_ (fun hHeld => ?_)
  · exact hS
  clear hK K
  try simp only [Act.put, List.setIfInBounds_toArray, List.set_cons_zero, List.set_cons_succ]
  refine wpAnyH_take (i := 12) (v := ?_) (by simp only [List.getElem?_toArray, List.getElem?_cons_succ, List.getElem?_cons_zero]; rfl) (by kernel_rfl) (by kernel_rfl) (by kernel_rfl) (fun _ _ _ h => h) (Or.inl ⟨by rfl, ?_⟩) (by assumption) ?_
  rotate_left 1
  · (intro w' hSw; obtain ⟨c0, c1, c2, c3, d0, d1, d2, d3⟩ := HKN.out.c hSw; clear hSw; go_simp; try with_reducible rfl)
  try simp only [Act.put, List.setIfInBounds_toArray, List.set_cons_zero, List.set_cons_succ]
  refine wpAnyH_take (i := 13) (v := ?_) (by simp only [List.getElem?_toArray, List.getElem?_cons_succ, List.getElem?_cons_zero]; rfl) (by kernel_rfl) (by kernel_rfl) (by kernel_rfl) (fun _ _ _ h => h) (Or.inl ⟨by rfl, ?_⟩) (by assumption) ?_
  rotate_left 1
  · (intro w' hSw; obtain ⟨c0, c1, c2, c3, d0, d1, d2, d3⟩ := HKN.out.c hSw; clear hSw; go_simp; try with_reducible rfl)
  try simp only [Act.put, List.setIfInBounds_toArray, List.set_cons_zero, List.set_cons_succ]
  refine wpAnyH_done (by kernel_rfl) ?_ _
  refine NoPanic.normal ?_
  have hE := hHeld
  clear hHeld
  have HE := Lib.hid (HBN.out.trans (hE.mono HBN.out.size))
  clear hE
  go_wp2_with fail
  go_ret
  exact ⟨rfl, HE.out⟩

set_option maxRecDepth 100000 in
theorem lifted (os : Os) (started : os.Started) (H : Type) (enc : TypeId × Value → H) :
    ReturnsInHanded {} Try.checked os 3 .any (Rows.packetBackSpec.pre6 enc Try.prog Try.f3 Rows.packetBackRow.domain false) (Rows.packetBackSpec.post enc Try.prog Try.f3 false true false false) := by
  refine returnsInHanded_of_change_sized (C := Try.checked) own started (by kernel_rfl) Try.func3
    (ChangeSpec.witness6 (enc := enc) (C := Try.checked) false ⟨#[], #[.agg #[.int .u16 0, .int .u16 0, .int .u32 0, .slice none 0 0], .int .i64 0, .int .u8 0, .string ⟨#[]⟩], []⟩ 8 (by kernel_rfl) (by kernel_rfl) (by kernel_rfl) (by kernel_rfl)) ?_
  intro W base args ds gs before hval0 hW _ hreach _
  have hval : ∀ (j : Nat) t v, Try.f3.params[j]? = some t → args[j]? = some v → Value.okWide Try.prog W .any base t v := hval0
  obtain ⟨p, q, hA0, _, _, _, _⟩ := id hW
  have hA : DataW.TrodAll enc Try.prog W 0 (fun _ => true) true Try.f3.params.toList args.toList ds p := hA0
  rw [Try.params3] at hA hval
  obtain ⟨v0, vs0, d0, ds0, p0, q0, hargs, rfl, rfl, h0, r0⟩ := trodAll_cons hA
  obtain ⟨v1, vs1, d1, ds1, p1, q1, rfl, rfl, rfl, h1, r1⟩ := trodAll_cons r0
  obtain ⟨v2, vs2, d2, ds2, p2, q2, rfl, rfl, rfl, h2, r2⟩ := trodAll_cons r1
  obtain ⟨v3, vs3, d3, ds3, p3, q3, rfl, rfl, rfl, h3, r3⟩ := trodAll_cons r2
  obtain ⟨rfl, rfl, rfl⟩ := trodAll_nil r3
  obtain rfl : args = #[v0, v1, v2, v3] := by cases args; simp_all
  obtain ⟨f0, t0, g0, u0, l0, rfl, n0⟩ := packet_in (hval 0 26 v0 rfl rfl) h0
  obtain ⟨a1, rfl, rfl, rfl, w1⟩ := open_int Try.underlying3 (hval 1 3 v1 rfl rfl) h1
  obtain ⟨a2, rfl, rfl, rfl, w2⟩ := open_int Try.underlying5 (hval 2 5 v2 rfl rfl) h2
  obtain ⟨n2, rfl, b2⟩ := nat_u8 w2
  obtain ⟨a3, rfl, rfl, rfl, w3⟩ := Go.ChangeMaps.open_string Try.underlying9 (hval 3 9 v3 rfl rfl) h3
  refine (walk f0 t0 g0 u0 l0 W n0 a1 (bounds_i64 w1).1 (bounds_i64 w1).2 n2 b2 a3 w3).mono fun e W' ⟨he, hg⟩ => ?_
  subst he
  exact ⟨_, rfl, law_post laidOut Try.underlying4 (by kernel_rfl) (by kernel_rfl) rfl hW (by simp [Rows.packetBackSpec]) hg⟩

theorem proved : Rows.PacketBackSaid :=
  OpenClaim.holds_of_wide 3 Try.f3 rfl rfl rfl rfl rfl rfl rfl ⟨rfl, rfl, rfl, rfl, rfl⟩ rfl rfl rfl rfl rfl (by kernel_rfl) Try.func3 (by kernel_rfl)
    (of_decide_eq_true (by kernel_rfl)) (by unfold Func.isWrapper; first | (rw [if_pos (by decide +kernel)]; kernel_rfl) | (rw [if_neg (by decide +kernel)]; exact ⟨rfl, rfl⟩))
    (fun os started H enc _ => lifted os started H enc)
#print axioms proved
end Go.Proofs.Ytlbaockipeojhaa.packetBack
