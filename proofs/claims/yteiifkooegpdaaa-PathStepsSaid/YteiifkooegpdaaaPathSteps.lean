/-
  What paths are when something happens to them: any paths, any numbers.
-/
import Derived.Test.YteiifkooegpdaaaLift
import Derived.Test.YteiifkooegpdaaaArgs
import Derived.Test.YteiifkooegpdaaaPaF
import Derived.Test.YteiifkooegpdaaaPaG
import Derived.Test.YteiifkooegpdaaaPaH
import Derived.Test.YteiifkooegpdaaaPaI
import Derived.Test.YteiifkooegpdaaaPaJ
import Derived.Test.YteiifkooegpdaaaPaK
import Derived.Test.YteiifkooegpdaaaPaP
import Derived.Test.YteiifkooegpdaaaPaN
namespace Go.Proofs.Yteiifkooegpdaaa.pathSteps
open Go.ChangeShapes Go.WideShapes Go.ChangeAt Go.RowKit
set_option linter.unusedVariables false

/-- A box that paths lie in. -/
structure Bk where
  T : TypeId
  l : List Pa
  pr : Int
  al : Int
  g : Nat
  v : Value
def Bk.at (x : Bk) (W : World) : Prop := Bx W x.g x.T #[x.v, .int .i64 x.pr, .int .i64 x.al] ∧ RowP W x.v x.l
def AllK (L : List Bk) (W : World) : Prop := ∀ x ∈ L, x.at W
theorem AllK.later {L : List Bk} {W W' : World} (h : AllK L W) (hb : Below W.heap.size W W') : AllK L W' := fun x hx => ⟨(h x hx).1.later hb, (h x hx).2.below hb⟩
theorem AllK.drew {L : List Bk} {W : World} (h : AllK L W) : AllK L W.drew := h
theorem AllK.nth {L : List Bk} {W : World} {x : Bk} (h : AllK L W) (i : Nat) (hi : L[i]? = some x) : x.at W := h x (List.mem_of_getElem? hi)
theorem AllK.snoc {L : List Bk} {W : World} {x : Bk} (h : AllK L W) (hx : x.at W) : AllK (L ++ [x]) W := fun y hy => by
  rcases List.mem_append.1 hy with hy | hy
  · exact h y hy
  · rw [List.mem_singleton.1 hy]; exact hx
theorem drop4 {P : Program} {f} {args : Array Value} {W : World} {A B C D : Ending → World → Value → Prop} (h : Calls P f args W fun e W' => ∃ v', A e W' v' ∧ B e W' v' ∧ C e W' v' ∧ D e W' v') : Calls P f args W fun e W' => ∃ v', A e W' v' ∧ B e W' v' ∧ C e W' v' := h.mono fun e W' ⟨v', a, b, c, _⟩ => ⟨v', a, b, c⟩
theorem ack_len (p : Ps) (i n now : Int) : (ackP p i n now).l.length = p.l.length := by unfold ackP; split <;> simp [updL_length]
theorem beat_len (p : Ps) (i n now : Int) : (beatP p i n now).l.length = p.l.length := by unfold beatP; split <;> simp [updL_length]
theorem fail_len (p : Ps) (i : Int) : (failP p i).l.length = p.l.length := by unfold failP; split <;> simp [updL_length]
theorem good_len (p : Ps) (i : Int) : (goodP p i).l.length = p.l.length := by unfold goodP; split <;> simp [updL_length]
theorem prim_len (p : Ps) (i : Int) : (primP p i).l.length ≤ p.l.length := by unfold primP; split <;> simp [zeroPs]

set_option maxHeartbeats 4000000 in
set_option maxRecDepth 100000 in
theorem walk (pr al : Int) (V : Value) (l : List Pa) (i nonce now : Int) (w : World) (hin : InPs w pr al V l) : Calls Try.prog 4 #[.agg #[V, .int .i64 pr, .int .i64 al], .int .i64 i, .int .u32 nonce, .int .i64 now] w fun e w' => e = .returned (.bool true) ∧ Below w.heap.size w w' := by
  have hv := hin.row
  have HAD := Lib.hid hin.ad
  have hwf : ∀ x ∈ l, WfT x.tm := fun x hx => (hin.wf x hx).tm
  have HS := Lib.hid (fun W => shown_any W)
  have HRW := Lib.hid (fun (W : World) (h : Below w.heap.size w W) => hv.below h)
  obtain ⟨A, cap, rfl, hcap, hmax, hcells⟩ := hv
  have hml : (l.length : Int) ≤ 9223372036854775807 := by unfold maxLen at hmax; omega
  have HA := Lib.hid (BS.first w 27 #[.slice A l.length cap, .int .i64 pr, .int .i64 al])
  have HC := Lib.hid hcells
  clear hcells hin
  by_cases hl : l.length ≤ 20
  · have hl' : ¬ (20 : Int) < (l.length : Int) := by omega
    have HAS0 := Lib.hid (fun v W h => drop4 (as_any l (by omega) v pr al W h))
    have HSA0 := Lib.hid (fun v1 v2 W h1 h2 => same_any l (by omega) v1 v2 pr al W h1 h2)
    have HACK := Lib.hid (fun v W h => drop4 (ack_any l (by omega) v pr al i nonce now W h))
    have HRAC := Lib.hid (fun v W h => rack_any l (by omega) v pr al i nonce now W h)
    have HFA := Lib.hid (fun v W h => drop4 (fail_any l (by omega) v pr al i hwf W h))
    have HRFA := Lib.hid (fun v W h => rfail_any l (by omega) v pr al i hwf W h)
    have HPR := Lib.hid (fun v W h => drop4 (prim_any l (by omega) v pr al i W h))
    have HRPR := Lib.hid (fun v W h => rprim_any l (by omega) v pr al i W h)
    have HBE := Lib.hid (fun v W h => drop4 (beat_any l (by omega) v pr al i nonce now W h))
    have HRB := Lib.hid (fun v W h => rbeat_any l (by omega) v pr al i nonce now W h)
    have HGO := Lib.hid (fun v W h => drop4 (good_path l (by omega) v pr al i W h))
    have HRG := Lib.hid (fun v W h => drop4 (rgoodP_any l (by omega) v pr al i W h))
    have HCH := Lib.hid (fun v W h => choose_any l (by omega) v pr al i W h)
    have HRC := Lib.hid (fun v W h => rchoose_any l (by omega) v pr al i W h)
    have la1 : (ackP ⟨l, pr, al⟩ i nonce now).l.length ≤ 100000 := by rw [ack_len]; show l.length ≤ _; omega
    have lb1 : (beatP ⟨l, pr, al⟩ i nonce now).l.length ≤ 100000 := by rw [beat_len]; show l.length ≤ _; omega
    have lc1 : (failP ⟨l, pr, al⟩ i).l.length ≤ 100000 := by rw [fail_len]; show l.length ≤ _; omega
    have lg1 : (goodP ⟨l, pr, al⟩ i).l.length ≤ 100000 := by rw [good_len]; show l.length ≤ _; omega
    have le1 : (primP ⟨l, pr, al⟩ i).l.length ≤ 100000 := Nat.le_trans (prim_len _ _) (show l.length ≤ _ by omega)
    generalize ackP ⟨l, pr, al⟩ i nonce now = Ra at *
    generalize ackB ⟨l, pr, al⟩ i nonce now = fa at *
    generalize beatP ⟨l, pr, al⟩ i nonce now = Rb at *
    generalize failP ⟨l, pr, al⟩ i = Rc at *
    generalize failB ⟨l, pr, al⟩ i = fc at *
    generalize goodP ⟨l, pr, al⟩ i = Rg at *
    generalize primP ⟨l, pr, al⟩ i = Re at *
    generalize primE ⟨l, pr, al⟩ i = fe at *
    generalize chooseP ⟨l, pr, al⟩ i = ch at *
    obtain ⟨la, pra, ala⟩ := Ra
    obtain ⟨lb, prb, alb⟩ := Rb
    obtain ⟨lc, prc, alc⟩ := Rc
    obtain ⟨lg, prg, alg⟩ := Rg
    obtain ⟨le, pre, ale⟩ := Re
    dsimp only at HACK HRAC HFA HRFA HPR HRPR HBE HRB HGO HRG la1 lb1 lc1 lg1 le1
    have HASA := Lib.hid (fun v W h => drop4 (as_any la la1 v pra ala W h))
    have HSAA := Lib.hid (fun v1 v2 W h1 h2 => same_any la la1 v1 v2 pra ala W h1 h2)
    have HASB := Lib.hid (fun v W h => drop4 (as_any lb lb1 v prb alb W h))
    have HSAB := Lib.hid (fun v1 v2 W h1 h2 => same_any lb lb1 v1 v2 prb alb W h1 h2)
    have HASC := Lib.hid (fun v W h => drop4 (as_any lc lc1 v prc alc W h))
    have HSAC := Lib.hid (fun v1 v2 W h1 h2 => same_any lc lc1 v1 v2 prc alc W h1 h2)
    have HASG := Lib.hid (fun v W h => drop4 (as_any lg lg1 v prg alg W h))
    have HSAG := Lib.hid (fun v1 v2 W h1 h2 => same_any lg lg1 v1 v2 prg alg W h1 h2)
    have HASE := Lib.hid (fun v W h => drop4 (as_any le le1 v pre ale W h))
    have HSAE := Lib.hid (fun v1 v2 W h1 h2 => same_any le le1 v1 v2 pre ale W h1 h2)
    clear la1 lb1 lc1 lg1 le1 hwf
    go_enter Try.func4, Try.ntmps4
    go_wp2_with (first
    | (go_at_call 8; (with_reducible refine (HS.out _).mono ?_); rintro e w1 ⟨rfl, hb1⟩; replace HA := Lib.hid (HA.out.later hb1); clear hb1; have c0 := HA.out.own.cell 0 (.slice A l.length cap) rfl))
    go_loopw [10] (fun i wr => ∃ k : Nat, k ≤ l.length ∧ i = .int .i64 k ∧ Hid (BS w w.heap.size 27 #[.slice A l.length cap, .int .i64 pr, .int .i64 al] wr))
      (fun i _ => l.length - (intOf i).toNat)
    case atStart => exact ⟨0, Nat.zero_le _, rfl, HA⟩
    case round =>
      clear HA
      obtain ⟨k, hk, rfl, HA⟩ := hrel
      have c0 := HA.out.own.cell 0 (.slice A l.length cap) rfl
      by_cases hlt : k < l.length
      · obtain ⟨b, off, rfl, hb, hcc⟩ := HC.out (by omega)
        have hd := (HA.out.below.cell (p := ⟨b, off + k * 14, none⟩) hb).trans ((hcc k hlt) 0 _ rfl)
        have q4 : (0 : Int) ≤ (k : Int) := by omega
        have q5 : (k : Int) < (l.length : Int) := by omega
        have hsz := HAD.out _ (List.getElem_mem hlt)
        unfold maxLen at hsz
        generalize l[k].ad = ad at *
        have hsz' : (ad.size : Int) ≤ 9223372036854775807 := by omega
        clear hcc hsz
        by_cases h100 : (100 : Int) < (ad.size : Int)
        · go_wp2_with fail
          go_ret
          exact ⟨rfl, HA.out.below⟩
        · go_wp2_with fail
          go_roundw
          case rel => exact ⟨k + 1, by omega, by go_num, HA⟩
          case measure => simp [intOf]; omega
      · obtain rfl : k = l.length := by omega
        clear HC HAD
        have HK : Hid (AllK [⟨27, l, pr, al, w.heap.size, .slice A l.length cap⟩] wr) := Lib.hid (fun x hx => by rw [List.mem_singleton.1 hx]; exact ⟨HA.out.own, HRW.out _ HA.out.below⟩)
        have HB := Lib.hid HA.out.below
        clear HA
        go_wp2_with (first
    | ((with_reducible refine gate9 ?_); refine ldB (ty := 27) rfl rfl rfl (show Bx _ (w.heap.size) 27 #[.slice A l.length cap, .int .i64 pr, .int .i64 al] from (AllK.nth HK.out 0 rfl).1) Try.underlying27 rfl infoPs ?_))
        clear c0
        refine (HAS0.out _ _ (show RowP _ (.slice A l.length cap) l from (AllK.nth HK.out 0 rfl).2)).mono ?_
        rintro e w1 ⟨v9, rfl, hr, hb1⟩
        replace HB := Lib.hid (HB.out.trans (hb1.mono HB.out.size))
        replace HK := Lib.hid (HK.out.later hb1)
        have HR9 := Lib.hid hr
        obtain ⟨Aq, cq, rfl, -, -, -⟩ := hr
        clear hb1
        obtain ⟨W2, hW2, HQ9, HB2, hs2⟩ := one_open w1 33 #[.slice none 0 0, .int .i64 0, .int .i64 0]
        obtain ⟨gq, hgq⟩ : ∃ g, w1.heap.size = g := ⟨_, rfl⟩
        rw [hgq] at HQ9
        go_wp2_with (first
    | ((with_reducible refine gate9 ?_); refine stB (ty := 33) #[.slice Aq l.length cq, .int .i64 pr, .int .i64 al] rfl rfl rfl rfl HQ9.out infoRPs rfl (cells3_one _ _ _ _ _) ?_; intro w3 ht hg; replace HB2 := Lib.hid (below_of_grown1 HB2.out hg HB2.out.size (Nat.le_of_eq hgq)); replace HK : Hid (AllK [⟨27, l, pr, al, w.heap.size, .slice A l.length cap⟩, ⟨33, l, pr, al, gq, .slice Aq l.length cq⟩] w3) := Lib.hid ((HK.out.later HB2.out).snoc (x := ⟨33, l, pr, al, gq, .slice Aq l.length cq⟩) ⟨ht, HR9.out.below HB2.out⟩); replace HB := Lib.hid (HB.out.trans (HB2.out.mono HB.out.size)); clear ht hg HB2 HR9 HQ9)
    | ((with_reducible refine gate9 ?_); refine ldB (ty := 27) rfl rfl rfl (show Bx _ (w.heap.size) 27 #[.slice A l.length cap, .int .i64 pr, .int .i64 al] from (AllK.nth HK.out 0 rfl).1) Try.underlying27 rfl infoPs ?_)
    | ((with_reducible refine gate9 ?_); refine ldB (ty := 33) rfl rfl rfl (show Bx _ (gq) 33 #[.slice Aq l.length cq, .int .i64 pr, .int .i64 al] from (AllK.nth HK.out 1 rfl).1) Try.underlying33 rfl infoRPs ?_))
        clear hs2 hW2 hgq
        refine (HACK.out _ _ (show RowP _ (.slice A l.length cap) l from (AllK.nth HK.out 0 rfl).2)).mono ?_
        rintro e w1 ⟨v9, rfl, hr, hb1⟩
        replace HB := Lib.hid (HB.out.trans (hb1.mono HB.out.size))
        replace HK := Lib.hid (HK.out.later hb1)
        have HR9 := Lib.hid hr
        obtain ⟨Aa, ca, rfl, -, -, -⟩ := hr
        clear hb1
        obtain ⟨W2, hW2, HQ9, HB2, hs2⟩ := one_open w1 27 #[.slice none 0 0, .int .i64 0, .int .i64 0]
        obtain ⟨ga, hga⟩ : ∃ g, w1.heap.size = g := ⟨_, rfl⟩
        rw [hga] at HQ9
        go_wp2_with (first
    | ((with_reducible refine gate9 ?_); refine stB (ty := 27) #[.slice Aa la.length ca, .int .i64 pra, .int .i64 ala] rfl rfl rfl rfl HQ9.out infoPs rfl (cells3_one _ _ _ _ _) ?_; intro w3 ht hg; replace HB2 := Lib.hid (below_of_grown1 HB2.out hg HB2.out.size (Nat.le_of_eq hga)); replace HK : Hid (AllK [⟨27, l, pr, al, w.heap.size, .slice A l.length cap⟩, ⟨33, l, pr, al, gq, .slice Aq l.length cq⟩, ⟨27, la, pra, ala, ga, .slice Aa la.length ca⟩] w3) := Lib.hid ((HK.out.later HB2.out).snoc (x := ⟨27, la, pra, ala, ga, .slice Aa la.length ca⟩) ⟨ht, HR9.out.below HB2.out⟩); replace HB := Lib.hid (HB.out.trans (HB2.out.mono HB.out.size)); clear ht hg HB2 HR9 HQ9)
    | ((with_reducible refine gate9 ?_); refine ldB (ty := 27) rfl rfl rfl (show Bx _ (w.heap.size) 27 #[.slice A l.length cap, .int .i64 pr, .int .i64 al] from (AllK.nth HK.out 0 rfl).1) Try.underlying27 rfl infoPs ?_)
    | ((with_reducible refine gate9 ?_); refine ldB (ty := 33) rfl rfl rfl (show Bx _ (gq) 33 #[.slice Aq l.length cq, .int .i64 pr, .int .i64 al] from (AllK.nth HK.out 1 rfl).1) Try.underlying33 rfl infoRPs ?_))
        clear hs2 hW2 hga
        refine (HRAC.out _ _ (show RowP _ (.slice Aq l.length cq) l from (AllK.nth HK.out 1 rfl).2)).mono ?_
        rintro e w1 ⟨v9, rfl, hr, hb1⟩
        replace HB := Lib.hid (HB.out.trans (hb1.mono HB.out.size))
        replace HK := Lib.hid (HK.out.later hb1)
        have HR9 := Lib.hid hr
        obtain ⟨Ab, cb, rfl, -, -, -⟩ := hr
        clear hb1
        obtain ⟨W2, hW2, HQ9, HB2, hs2⟩ := one_open w1 33 #[.slice none 0 0, .int .i64 0, .int .i64 0]
        obtain ⟨gb, hgb⟩ : ∃ g, w1.heap.size = g := ⟨_, rfl⟩
        rw [hgb] at HQ9
        go_wp2_with (first
    | ((with_reducible refine gate9 ?_); refine stB (ty := 33) #[.slice Ab la.length cb, .int .i64 pra, .int .i64 ala] rfl rfl rfl rfl HQ9.out infoRPs rfl (cells3_one _ _ _ _ _) ?_; intro w3 ht hg; replace HB2 := Lib.hid (below_of_grown1 HB2.out hg HB2.out.size (Nat.le_of_eq hgb)); replace HK : Hid (AllK [⟨27, l, pr, al, w.heap.size, .slice A l.length cap⟩, ⟨33, l, pr, al, gq, .slice Aq l.length cq⟩, ⟨27, la, pra, ala, ga, .slice Aa la.length ca⟩, ⟨33, la, pra, ala, gb, .slice Ab la.length cb⟩] w3) := Lib.hid ((HK.out.later HB2.out).snoc (x := ⟨33, la, pra, ala, gb, .slice Ab la.length cb⟩) ⟨ht, HR9.out.below HB2.out⟩); replace HB := Lib.hid (HB.out.trans (HB2.out.mono HB.out.size)); clear ht hg HB2 HR9 HQ9)
    | ((with_reducible refine gate9 ?_); refine ldB (ty := 27) rfl rfl rfl (show Bx _ (w.heap.size) 27 #[.slice A l.length cap, .int .i64 pr, .int .i64 al] from (AllK.nth HK.out 0 rfl).1) Try.underlying27 rfl infoPs ?_)
    | ((with_reducible refine gate9 ?_); refine ldB (ty := 33) rfl rfl rfl (show Bx _ (gq) 33 #[.slice Aq l.length cq, .int .i64 pr, .int .i64 al] from (AllK.nth HK.out 1 rfl).1) Try.underlying33 rfl infoRPs ?_))
        clear hs2 hW2 hgb
        refine (HFA.out _ _ (show RowP _ (.slice A l.length cap) l from (AllK.nth HK.out 0 rfl).2)).mono ?_
        rintro e w1 ⟨v9, rfl, hr, hb1⟩
        replace HB := Lib.hid (HB.out.trans (hb1.mono HB.out.size))
        replace HK := Lib.hid (HK.out.later hb1)
        have HR9 := Lib.hid hr
        obtain ⟨Ac, cc, rfl, -, -, -⟩ := hr
        clear hb1
        obtain ⟨W2, hW2, HQ9, HB2, hs2⟩ := one_open w1 27 #[.slice none 0 0, .int .i64 0, .int .i64 0]
        obtain ⟨gc, hgc⟩ : ∃ g, w1.heap.size = g := ⟨_, rfl⟩
        rw [hgc] at HQ9
        go_wp2_with (first
    | ((with_reducible refine gate9 ?_); refine stB (ty := 27) #[.slice Ac lc.length cc, .int .i64 prc, .int .i64 alc] rfl rfl rfl rfl HQ9.out infoPs rfl (cells3_one _ _ _ _ _) ?_; intro w3 ht hg; replace HB2 := Lib.hid (below_of_grown1 HB2.out hg HB2.out.size (Nat.le_of_eq hgc)); replace HK : Hid (AllK [⟨27, l, pr, al, w.heap.size, .slice A l.length cap⟩, ⟨33, l, pr, al, gq, .slice Aq l.length cq⟩, ⟨27, la, pra, ala, ga, .slice Aa la.length ca⟩, ⟨33, la, pra, ala, gb, .slice Ab la.length cb⟩, ⟨27, lc, prc, alc, gc, .slice Ac lc.length cc⟩] w3) := Lib.hid ((HK.out.later HB2.out).snoc (x := ⟨27, lc, prc, alc, gc, .slice Ac lc.length cc⟩) ⟨ht, HR9.out.below HB2.out⟩); replace HB := Lib.hid (HB.out.trans (HB2.out.mono HB.out.size)); clear ht hg HB2 HR9 HQ9)
    | ((with_reducible refine gate9 ?_); refine ldB (ty := 27) rfl rfl rfl (show Bx _ (w.heap.size) 27 #[.slice A l.length cap, .int .i64 pr, .int .i64 al] from (AllK.nth HK.out 0 rfl).1) Try.underlying27 rfl infoPs ?_)
    | ((with_reducible refine gate9 ?_); refine ldB (ty := 33) rfl rfl rfl (show Bx _ (gq) 33 #[.slice Aq l.length cq, .int .i64 pr, .int .i64 al] from (AllK.nth HK.out 1 rfl).1) Try.underlying33 rfl infoRPs ?_))
        clear hs2 hW2 hgc
        refine (HRFA.out _ _ (show RowP _ (.slice Aq l.length cq) l from (AllK.nth HK.out 1 rfl).2)).mono ?_
        rintro e w1 ⟨v9, rfl, hr, hb1⟩
        replace HB := Lib.hid (HB.out.trans (hb1.mono HB.out.size))
        replace HK := Lib.hid (HK.out.later hb1)
        have HR9 := Lib.hid hr
        obtain ⟨Ad, cd, rfl, -, -, -⟩ := hr
        clear hb1
        obtain ⟨W2, hW2, HQ9, HB2, hs2⟩ := one_open w1 33 #[.slice none 0 0, .int .i64 0, .int .i64 0]
        obtain ⟨gd, hgd⟩ : ∃ g, w1.heap.size = g := ⟨_, rfl⟩
        rw [hgd] at HQ9
        go_wp2_with (first
    | ((with_reducible refine gate9 ?_); refine stB (ty := 33) #[.slice Ad lc.length cd, .int .i64 prc, .int .i64 alc] rfl rfl rfl rfl HQ9.out infoRPs rfl (cells3_one _ _ _ _ _) ?_; intro w3 ht hg; replace HB2 := Lib.hid (below_of_grown1 HB2.out hg HB2.out.size (Nat.le_of_eq hgd)); replace HK : Hid (AllK [⟨27, l, pr, al, w.heap.size, .slice A l.length cap⟩, ⟨33, l, pr, al, gq, .slice Aq l.length cq⟩, ⟨27, la, pra, ala, ga, .slice Aa la.length ca⟩, ⟨33, la, pra, ala, gb, .slice Ab la.length cb⟩, ⟨27, lc, prc, alc, gc, .slice Ac lc.length cc⟩, ⟨33, lc, prc, alc, gd, .slice Ad lc.length cd⟩] w3) := Lib.hid ((HK.out.later HB2.out).snoc (x := ⟨33, lc, prc, alc, gd, .slice Ad lc.length cd⟩) ⟨ht, HR9.out.below HB2.out⟩); replace HB := Lib.hid (HB.out.trans (HB2.out.mono HB.out.size)); clear ht hg HB2 HR9 HQ9)
    | ((with_reducible refine gate9 ?_); refine ldB (ty := 27) rfl rfl rfl (show Bx _ (w.heap.size) 27 #[.slice A l.length cap, .int .i64 pr, .int .i64 al] from (AllK.nth HK.out 0 rfl).1) Try.underlying27 rfl infoPs ?_)
    | ((with_reducible refine gate9 ?_); refine ldB (ty := 33) rfl rfl rfl (show Bx _ (gq) 33 #[.slice Aq l.length cq, .int .i64 pr, .int .i64 al] from (AllK.nth HK.out 1 rfl).1) Try.underlying33 rfl infoRPs ?_))
        clear hs2 hW2 hgd
        refine (HPR.out _ _ (show RowP _ (.slice A l.length cap) l from (AllK.nth HK.out 0 rfl).2)).mono ?_
        rintro e w1 ⟨v9, rfl, hr, hb1⟩
        replace HB := Lib.hid (HB.out.trans (hb1.mono HB.out.size))
        replace HK := Lib.hid (HK.out.later hb1)
        have HR9 := Lib.hid hr
        obtain ⟨Ae, ce, rfl, -, -, -⟩ := hr
        clear hb1
        obtain ⟨W2, hW2, HQ9, HB2, hs2⟩ := one_open w1 27 #[.slice none 0 0, .int .i64 0, .int .i64 0]
        obtain ⟨ge, hge⟩ : ∃ g, w1.heap.size = g := ⟨_, rfl⟩
        rw [hge] at HQ9
        go_wp2_with (first
    | ((with_reducible refine gate9 ?_); refine stB (ty := 27) #[.slice Ae le.length ce, .int .i64 pre, .int .i64 ale] rfl rfl rfl rfl HQ9.out infoPs rfl (cells3_one _ _ _ _ _) ?_; intro w3 ht hg; replace HB2 := Lib.hid (below_of_grown1 HB2.out hg HB2.out.size (Nat.le_of_eq hge)); replace HK : Hid (AllK [⟨27, l, pr, al, w.heap.size, .slice A l.length cap⟩, ⟨33, l, pr, al, gq, .slice Aq l.length cq⟩, ⟨27, la, pra, ala, ga, .slice Aa la.length ca⟩, ⟨33, la, pra, ala, gb, .slice Ab la.length cb⟩, ⟨27, lc, prc, alc, gc, .slice Ac lc.length cc⟩, ⟨33, lc, prc, alc, gd, .slice Ad lc.length cd⟩, ⟨27, le, pre, ale, ge, .slice Ae le.length ce⟩] w3) := Lib.hid ((HK.out.later HB2.out).snoc (x := ⟨27, le, pre, ale, ge, .slice Ae le.length ce⟩) ⟨ht, HR9.out.below HB2.out⟩); replace HB := Lib.hid (HB.out.trans (HB2.out.mono HB.out.size)); clear ht hg HB2 HR9 HQ9)
    | ((with_reducible refine gate9 ?_); refine ldB (ty := 27) rfl rfl rfl (show Bx _ (w.heap.size) 27 #[.slice A l.length cap, .int .i64 pr, .int .i64 al] from (AllK.nth HK.out 0 rfl).1) Try.underlying27 rfl infoPs ?_)
    | ((with_reducible refine gate9 ?_); refine ldB (ty := 33) rfl rfl rfl (show Bx _ (gq) 33 #[.slice Aq l.length cq, .int .i64 pr, .int .i64 al] from (AllK.nth HK.out 1 rfl).1) Try.underlying33 rfl infoRPs ?_))
        clear hs2 hW2 hge
        refine (HRPR.out _ _ (show RowP _ (.slice Aq l.length cq) l from (AllK.nth HK.out 1 rfl).2)).mono ?_
        rintro e w1 ⟨v9, rfl, hr, hb1⟩
        replace HB := Lib.hid (HB.out.trans (hb1.mono HB.out.size))
        replace HK := Lib.hid (HK.out.later hb1)
        have HR9 := Lib.hid hr
        obtain ⟨Af, cf, rfl, -, -, -⟩ := hr
        clear hb1
        obtain ⟨W2, hW2, HQ9, HB2, hs2⟩ := one_open w1 33 #[.slice none 0 0, .int .i64 0, .int .i64 0]
        obtain ⟨gf, hgf⟩ : ∃ g, w1.heap.size = g := ⟨_, rfl⟩
        rw [hgf] at HQ9
        go_wp2_with (first
    | ((with_reducible refine gate9 ?_); refine stB (ty := 33) #[.slice Af le.length cf, .int .i64 pre, .int .i64 ale] rfl rfl rfl rfl HQ9.out infoRPs rfl (cells3_one _ _ _ _ _) ?_; intro w3 ht hg; replace HB2 := Lib.hid (below_of_grown1 HB2.out hg HB2.out.size (Nat.le_of_eq hgf)); replace HK : Hid (AllK [⟨27, l, pr, al, w.heap.size, .slice A l.length cap⟩, ⟨33, l, pr, al, gq, .slice Aq l.length cq⟩, ⟨27, la, pra, ala, ga, .slice Aa la.length ca⟩, ⟨33, la, pra, ala, gb, .slice Ab la.length cb⟩, ⟨27, lc, prc, alc, gc, .slice Ac lc.length cc⟩, ⟨33, lc, prc, alc, gd, .slice Ad lc.length cd⟩, ⟨27, le, pre, ale, ge, .slice Ae le.length ce⟩, ⟨33, le, pre, ale, gf, .slice Af le.length cf⟩] w3) := Lib.hid ((HK.out.later HB2.out).snoc (x := ⟨33, le, pre, ale, gf, .slice Af le.length cf⟩) ⟨ht, HR9.out.below HB2.out⟩); replace HB := Lib.hid (HB.out.trans (HB2.out.mono HB.out.size)); clear ht hg HB2 HR9 HQ9)
    | ((with_reducible refine gate9 ?_); refine ldB (ty := 27) rfl rfl rfl (show Bx _ (w.heap.size) 27 #[.slice A l.length cap, .int .i64 pr, .int .i64 al] from (AllK.nth HK.out 0 rfl).1) Try.underlying27 rfl infoPs ?_)
    | ((with_reducible refine gate9 ?_); refine ldB (ty := 33) rfl rfl rfl (show Bx _ (gq) 33 #[.slice Aq l.length cq, .int .i64 pr, .int .i64 al] from (AllK.nth HK.out 1 rfl).1) Try.underlying33 rfl infoRPs ?_))
        clear hs2 hW2 hgf
        refine wp_region_noPanic ?_
        have HS := Lib.hid HK.out.drew
        replace HB := Lib.hid (below_drawn HB.out)
        refine wp_region_waits (S := fun V => AllK [⟨27, l, pr, al, w.heap.size, .slice A l.length cap⟩, ⟨33, l, pr, al, gq, .slice Aq l.length cq⟩, ⟨27, la, pra, ala, ga, .slice Aa la.length ca⟩, ⟨33, la, pra, ala, gb, .slice Ab la.length cb⟩, ⟨27, lc, prc, alc, gc, .slice Ac lc.length cc⟩, ⟨33, lc, prc, alc, gd, .slice Ad lc.length cd⟩, ⟨27, le, pre, ale, ge, .slice Ae le.length ce⟩, ⟨33, le, pre, ale, gf, .slice Af le.length cf⟩] V) [] (by kernel_rfl) HS.out (fun hHeld => ?_)
        refine wpAnyW_take (i := 0) (v := _) (by simp only [List.getElem?_toArray, List.getElem?_cons_zero]; rfl) (by kernel_rfl) (by kernel_rfl) (by kernel_rfl) (by kernel_rfl) (by kernel_rfl) (fun _ _ _ h => h) (yB (by rfl) rfl rfl (fun V h => (show Bx V (w.heap.size) 27 #[.slice A l.length cap, .int .i64 pr, .int .i64 al] from (AllK.nth h 0 rfl).1)) Try.underlying27 rfl infoPs) (by assumption) ?_
        try simp only [Act.put, List.setIfInBounds_toArray, List.set_cons_zero, List.set_cons_succ]
        refine wpAnyW_take (i := 1) (v := ?_) (by simp only [List.getElem?_toArray, List.getElem?_cons_succ, List.getElem?_cons_zero]; rfl) (by kernel_rfl) (by kernel_rfl) (by kernel_rfl) (by kernel_rfl) (by kernel_rfl) (fun _ _ _ h => h) (Or.inl ⟨by rfl, ?_⟩) (by assumption) ?_
        rotate_left 1
        · (intro w' hSw; go_simp; try with_reducible rfl)
        try simp only [Act.put, List.setIfInBounds_toArray, List.set_cons_zero, List.set_cons_succ]
        refine wpAnyW_take (i := 2) (v := ?_) (by simp only [List.getElem?_toArray, List.getElem?_cons_succ, List.getElem?_cons_zero]; rfl) (by kernel_rfl) (by kernel_rfl) (by kernel_rfl) (by kernel_rfl) (by kernel_rfl) (fun _ _ _ h => h) (Or.inl ⟨by rfl, ?_⟩) (by assumption) ?_
        rotate_left 1
        · (intro w' hSw; go_simp; try with_reducible rfl)
        try simp only [Act.put, List.setIfInBounds_toArray, List.set_cons_zero, List.set_cons_succ]
        refine wpAnyW_take (i := 3) (v := ?_) (by simp only [List.getElem?_toArray, List.getElem?_cons_succ, List.getElem?_cons_zero]; rfl) (by kernel_rfl) (by kernel_rfl) (by kernel_rfl) (by kernel_rfl) (by kernel_rfl) (fun _ _ _ h => h) (Or.inl ⟨by rfl, ?_⟩) (by assumption) ?_
        rotate_left 1
        · (intro w' hSw; go_simp; try with_reducible rfl)
        try simp only [Act.put, List.setIfInBounds_toArray, List.set_cons_zero, List.set_cons_succ]
        refine wpAnyW_take (i := 6) (v := _) (by simp only [List.getElem?_toArray, List.getElem?_cons_succ, List.getElem?_cons_zero]; rfl) (by kernel_rfl) (by kernel_rfl) (by kernel_rfl) (by kernel_rfl) (by kernel_rfl) (fun _ _ _ h => h) (yB (by rfl) rfl rfl (fun V h => (show Bx V (gq) 33 #[.slice Aq l.length cq, .int .i64 pr, .int .i64 al] from (AllK.nth h 1 rfl).1)) Try.underlying33 rfl infoRPs) (by assumption) ?_
        try simp only [Act.put, List.setIfInBounds_toArray, List.set_cons_zero, List.set_cons_succ]
        refine wpAnyW_take (i := 7) (v := ?_) (by simp only [List.getElem?_toArray, List.getElem?_cons_succ, List.getElem?_cons_zero]; rfl) (by kernel_rfl) (by kernel_rfl) (by kernel_rfl) (by kernel_rfl) (by kernel_rfl) (fun _ _ _ h => h) (Or.inl ⟨by rfl, ?_⟩) (by assumption) ?_
        rotate_left 1
        · (intro w' hSw; go_simp; try with_reducible rfl)
        try simp only [Act.put, List.setIfInBounds_toArray, List.set_cons_zero, List.set_cons_succ]
        refine wpAnyW_take (i := 8) (v := ?_) (by simp only [List.getElem?_toArray, List.getElem?_cons_succ, List.getElem?_cons_zero]; rfl) (by kernel_rfl) (by kernel_rfl) (by kernel_rfl) (by kernel_rfl) (by kernel_rfl) (fun _ _ _ h => h) (Or.inl ⟨by rfl, ?_⟩) (by assumption) ?_
        rotate_left 1
        · (intro w' hSw; go_simp; try with_reducible rfl)
        try simp only [Act.put, List.setIfInBounds_toArray, List.set_cons_zero, List.set_cons_succ]
        refine wpAnyW_take (i := 9) (v := ?_) (by simp only [List.getElem?_toArray, List.getElem?_cons_succ, List.getElem?_cons_zero]; rfl) (by kernel_rfl) (by kernel_rfl) (by kernel_rfl) (by kernel_rfl) (by kernel_rfl) (fun _ _ _ h => h) (Or.inl ⟨by rfl, ?_⟩) (by assumption) ?_
        rotate_left 1
        · (intro w' hSw; go_simp; try with_reducible rfl)
        try simp only [Act.put, List.setIfInBounds_toArray, List.set_cons_zero, List.set_cons_succ]
        refine wpAnyW_held (i := 4) (by kernel_rfl) (by simp only [List.getElem?_toArray, List.getElem?_cons_succ, List.getElem?_cons_zero]; rfl) (fun K hK => ?_)
        rw [if_pos (by rfl)]
        go_simp
        refine (HBE.out _ _ (show RowP _ (.slice A l.length cap) l from (AllK.nth HS.out 0 rfl).2)).mono ?_
        rintro _ w7 ⟨v4, rfl, hr4, hb1⟩
        clear hHeld
        replace HS := Lib.hid (HS.out.later hb1)
        replace HB := Lib.hid (HB.out.trans (hb1.mono HB.out.size))
        have HR4 := Lib.hid hr4; clear hr4; clear hb1
        go_wp2_with fail
        refine hK.out _ _ HS.out (fun hHeld => ?_)
        clear hK K
        try simp only [Act.put, List.setIfInBounds_toArray, List.set_cons_zero, List.set_cons_succ]
        refine wpAnyW_held (i := 5) (by kernel_rfl) (by simp only [List.getElem?_toArray, List.getElem?_cons_succ, List.getElem?_cons_zero]; rfl) (fun K hK => ?_)
        rw [if_pos (by rfl)]
        go_simp
        refine (HASB.out _ _ HR4.out).mono ?_
        rintro _ w7 ⟨v3, rfl, hr3, hb1⟩
        clear hHeld
        replace HS := Lib.hid (HS.out.later hb1)
        replace HB := Lib.hid (HB.out.trans (hb1.mono HB.out.size))
        clear HR4; have HR3 := Lib.hid hr3; clear hr3; clear hb1
        go_wp2_with fail
        refine hK.out _ _ HS.out (fun hHeld => ?_)
        clear hK K
        try simp only [Act.put, List.setIfInBounds_toArray, List.set_cons_zero, List.set_cons_succ]
        refine wpAnyW_held (i := 10) (by kernel_rfl) (by simp only [List.getElem?_toArray, List.getElem?_cons_succ, List.getElem?_cons_zero]; rfl) (fun K hK => ?_)
        rw [if_pos (by rfl)]
        go_simp
        refine (HRB.out _ _ (show RowP _ (.slice Aq l.length cq) l from (AllK.nth HS.out 1 rfl).2)).mono ?_
        rintro _ w7 ⟨v4, rfl, hr4, hb1⟩
        clear hHeld
        replace HS := Lib.hid (HS.out.later hb1)
        replace HB := Lib.hid (HB.out.trans (hb1.mono HB.out.size))
        replace HR3 := Lib.hid (HR3.out.below hb1); have HR4 := Lib.hid hr4; clear hr4; clear hb1
        go_wp2_with fail
        refine hK.out _ _ HS.out (fun hHeld => ?_)
        clear hK K
        try simp only [Act.put, List.setIfInBounds_toArray, List.set_cons_zero, List.set_cons_succ]
        refine wpAnyW_held (i := 11) (by kernel_rfl) (by simp only [List.getElem?_toArray, List.getElem?_cons_succ, List.getElem?_cons_zero]; rfl) (fun K hK => ?_)
        rw [if_pos (by rfl)]
        go_simp
        refine (HSAB.out _ _ _ HR3.out HR4.out).mono ?_
        rintro _ w8 ⟨rfl, hb1⟩
        clear hHeld
        replace HS := Lib.hid (HS.out.later hb1)
        replace HB := Lib.hid (HB.out.trans (hb1.mono HB.out.size))
        clear HR3 HR4; clear hb1
        go_wp2_with fail
        refine hK.out _ _ HS.out (fun hHeld => ?_)
        clear hK K
        try simp only [Act.put, List.setIfInBounds_toArray, List.set_cons_zero, List.set_cons_succ]
        refine wpAnyW_take (i := 12) (v := ?_) (by simp only [List.getElem?_toArray, List.getElem?_cons_succ, List.getElem?_cons_zero]; rfl) (by kernel_rfl) (by kernel_rfl) (by kernel_rfl) (by kernel_rfl) (by kernel_rfl) (fun _ _ _ h => h) (Or.inl ⟨by rfl, ?_⟩) (by assumption) ?_
        rotate_left 1
        · (intro w' hSw; go_simp; try with_reducible rfl)
        try simp only [Act.put, List.setIfInBounds_toArray, List.set_cons_zero, List.set_cons_succ]
        refine wpAnyW_take (i := 13) (v := _) (by simp only [List.getElem?_toArray, List.getElem?_cons_succ, List.getElem?_cons_zero]; rfl) (by kernel_rfl) (by kernel_rfl) (by kernel_rfl) (by kernel_rfl) (by kernel_rfl) (fun _ _ _ h => h) (yB (by rfl) rfl rfl (fun V h => (show Bx V (w.heap.size) 27 #[.slice A l.length cap, .int .i64 pr, .int .i64 al] from (AllK.nth h 0 rfl).1)) Try.underlying27 rfl infoPs) (by assumption) ?_
        try simp only [Act.put, List.setIfInBounds_toArray, List.set_cons_zero, List.set_cons_succ]
        refine wpAnyW_take (i := 14) (v := ?_) (by simp only [List.getElem?_toArray, List.getElem?_cons_succ, List.getElem?_cons_zero]; rfl) (by kernel_rfl) (by kernel_rfl) (by kernel_rfl) (by kernel_rfl) (by kernel_rfl) (fun _ _ _ h => h) (Or.inl ⟨by rfl, ?_⟩) (by assumption) ?_
        rotate_left 1
        · (intro w' hSw; go_simp; try with_reducible rfl)
        try simp only [Act.put, List.setIfInBounds_toArray, List.set_cons_zero, List.set_cons_succ]
        refine wpAnyW_take (i := 17) (v := _) (by simp only [List.getElem?_toArray, List.getElem?_cons_succ, List.getElem?_cons_zero]; rfl) (by kernel_rfl) (by kernel_rfl) (by kernel_rfl) (by kernel_rfl) (by kernel_rfl) (fun _ _ _ h => h) (yB (by rfl) rfl rfl (fun V h => (show Bx V (gq) 33 #[.slice Aq l.length cq, .int .i64 pr, .int .i64 al] from (AllK.nth h 1 rfl).1)) Try.underlying33 rfl infoRPs) (by assumption) ?_
        try simp only [Act.put, List.setIfInBounds_toArray, List.set_cons_zero, List.set_cons_succ]
        refine wpAnyW_take (i := 18) (v := ?_) (by simp only [List.getElem?_toArray, List.getElem?_cons_succ, List.getElem?_cons_zero]; rfl) (by kernel_rfl) (by kernel_rfl) (by kernel_rfl) (by kernel_rfl) (by kernel_rfl) (fun _ _ _ h => h) (Or.inl ⟨by rfl, ?_⟩) (by assumption) ?_
        rotate_left 1
        · (intro w' hSw; go_simp; try with_reducible rfl)
        try simp only [Act.put, List.setIfInBounds_toArray, List.set_cons_zero, List.set_cons_succ]
        refine wpAnyW_held (i := 15) (by kernel_rfl) (by simp only [List.getElem?_toArray, List.getElem?_cons_succ, List.getElem?_cons_zero]; rfl) (fun K hK => ?_)
        rw [if_pos (by rfl)]
        go_simp
        refine (HGO.out _ _ (show RowP _ (.slice A l.length cap) l from (AllK.nth HS.out 0 rfl).2)).mono ?_
        rintro _ w7 ⟨v4, rfl, hr4, hb1⟩
        clear hHeld
        replace HS := Lib.hid (HS.out.later hb1)
        replace HB := Lib.hid (HB.out.trans (hb1.mono HB.out.size))
        have HR4 := Lib.hid hr4; clear hr4; clear hb1
        go_wp2_with fail
        refine hK.out _ _ HS.out (fun hHeld => ?_)
        clear hK K
        try simp only [Act.put, List.setIfInBounds_toArray, List.set_cons_zero, List.set_cons_succ]
        refine wpAnyW_held (i := 16) (by kernel_rfl) (by simp only [List.getElem?_toArray, List.getElem?_cons_succ, List.getElem?_cons_zero]; rfl) (fun K hK => ?_)
        rw [if_pos (by rfl)]
        go_simp
        refine (HASG.out _ _ HR4.out).mono ?_
        rintro _ w7 ⟨v3, rfl, hr3, hb1⟩
        clear hHeld
        replace HS := Lib.hid (HS.out.later hb1)
        replace HB := Lib.hid (HB.out.trans (hb1.mono HB.out.size))
        clear HR4; have HR3 := Lib.hid hr3; clear hr3; clear hb1
        go_wp2_with fail
        refine hK.out _ _ HS.out (fun hHeld => ?_)
        clear hK K
        try simp only [Act.put, List.setIfInBounds_toArray, List.set_cons_zero, List.set_cons_succ]
        refine wpAnyW_held (i := 19) (by kernel_rfl) (by simp only [List.getElem?_toArray, List.getElem?_cons_succ, List.getElem?_cons_zero]; rfl) (fun K hK => ?_)
        rw [if_pos (by rfl)]
        go_simp
        refine (HRG.out _ _ (show RowP _ (.slice Aq l.length cq) l from (AllK.nth HS.out 1 rfl).2)).mono ?_
        rintro _ w7 ⟨v4, rfl, hr4, hb1⟩
        clear hHeld
        replace HS := Lib.hid (HS.out.later hb1)
        replace HB := Lib.hid (HB.out.trans (hb1.mono HB.out.size))
        replace HR3 := Lib.hid (HR3.out.below hb1); have HR4 := Lib.hid hr4; clear hr4; clear hb1
        go_wp2_with fail
        refine hK.out _ _ HS.out (fun hHeld => ?_)
        clear hK K
        try simp only [Act.put, List.setIfInBounds_toArray, List.set_cons_zero, List.set_cons_succ]
        refine wpAnyW_held (i := 20) (by kernel_rfl) (by simp only [List.getElem?_toArray, List.getElem?_cons_succ, List.getElem?_cons_zero]; rfl) (fun K hK => ?_)
        rw [if_pos (by rfl)]
        go_simp
        refine (HSAG.out _ _ _ HR3.out HR4.out).mono ?_
        rintro _ w8 ⟨rfl, hb1⟩
        clear hHeld
        replace HS := Lib.hid (HS.out.later hb1)
        replace HB := Lib.hid (HB.out.trans (hb1.mono HB.out.size))
        clear HR3 HR4; clear hb1
        go_wp2_with fail
        refine hK.out _ _ HS.out (fun hHeld => ?_)
        clear hK K
        try simp only [Act.put, List.setIfInBounds_toArray, List.set_cons_zero, List.set_cons_succ]
        refine wpAnyW_take (i := 21) (v := ?_) (by simp only [List.getElem?_toArray, List.getElem?_cons_succ, List.getElem?_cons_zero]; rfl) (by kernel_rfl) (by kernel_rfl) (by kernel_rfl) (by kernel_rfl) (by kernel_rfl) (fun _ _ _ h => h) (Or.inl ⟨by rfl, ?_⟩) (by assumption) ?_
        rotate_left 1
        · (intro w' hSw; go_simp; try with_reducible rfl)
        try simp only [Act.put, List.setIfInBounds_toArray, List.set_cons_zero, List.set_cons_succ]
        refine wpAnyW_take (i := 22) (v := ?_) (by simp only [List.getElem?_toArray, List.getElem?_cons_succ, List.getElem?_cons_zero]; rfl) (by kernel_rfl) (by kernel_rfl) (by kernel_rfl) (by kernel_rfl) (by kernel_rfl) (fun _ _ _ h => h) (Or.inl ⟨by rfl, ?_⟩) (by assumption) ?_
        rotate_left 1
        · (intro w' hSw; go_simp; try with_reducible rfl)
        try simp only [Act.put, List.setIfInBounds_toArray, List.set_cons_zero, List.set_cons_succ]
        refine wpAnyW_done (by kernel_rfl) ?_ _
        refine NoPanic.normal ?_
        go_wp2_with fail
        replace HK := HS
        clear HS
        refine wp_region_noPanic ?_
        have HS := Lib.hid HK.out.drew
        replace HB := Lib.hid (below_drawn HB.out)
        refine wp_region_waits (S := fun V => AllK [⟨27, l, pr, al, w.heap.size, .slice A l.length cap⟩, ⟨33, l, pr, al, gq, .slice Aq l.length cq⟩, ⟨27, la, pra, ala, ga, .slice Aa la.length ca⟩, ⟨33, la, pra, ala, gb, .slice Ab la.length cb⟩, ⟨27, lc, prc, alc, gc, .slice Ac lc.length cc⟩, ⟨33, lc, prc, alc, gd, .slice Ad lc.length cd⟩, ⟨27, le, pre, ale, ge, .slice Ae le.length ce⟩, ⟨33, le, pre, ale, gf, .slice Af le.length cf⟩] V) [] (by kernel_rfl) HS.out (fun hHeld => ?_)
        refine wpAnyW_take (i := 0) (v := _) (by simp only [List.getElem?_toArray, List.getElem?_cons_zero]; rfl) (by kernel_rfl) (by kernel_rfl) (by kernel_rfl) (by kernel_rfl) (by kernel_rfl) (fun _ _ _ h => h) (yB (by rfl) rfl rfl (fun V h => (show Bx V (ga) 27 #[.slice Aa la.length ca, .int .i64 pra, .int .i64 ala] from (AllK.nth h 2 rfl).1)) Try.underlying27 rfl infoPs) (by assumption) ?_
        try simp only [Act.put, List.setIfInBounds_toArray, List.set_cons_zero, List.set_cons_succ]
        refine wpAnyW_take (i := 2) (v := _) (by simp only [List.getElem?_toArray, List.getElem?_cons_succ, List.getElem?_cons_zero]; rfl) (by kernel_rfl) (by kernel_rfl) (by kernel_rfl) (by kernel_rfl) (by kernel_rfl) (fun _ _ _ h => h) (yB (by rfl) rfl rfl (fun V h => (show Bx V (gb) 33 #[.slice Ab la.length cb, .int .i64 pra, .int .i64 ala] from (AllK.nth h 3 rfl).1)) Try.underlying33 rfl infoRPs) (by assumption) ?_
        try simp only [Act.put, List.setIfInBounds_toArray, List.set_cons_zero, List.set_cons_succ]
        refine wpAnyW_held (i := 1) (by kernel_rfl) (by simp only [List.getElem?_toArray, List.getElem?_cons_succ, List.getElem?_cons_zero]; rfl) (fun K hK => ?_)
        rw [if_pos (by rfl)]
        go_simp
        refine (HASA.out _ _ (show RowP _ (.slice Aa la.length ca) la from (AllK.nth HS.out 2 rfl).2)).mono ?_
        rintro _ w7 ⟨v3, rfl, hr3, hb1⟩
        clear hHeld
        replace HS := Lib.hid (HS.out.later hb1)
        replace HB := Lib.hid (HB.out.trans (hb1.mono HB.out.size))
        have HR3 := Lib.hid hr3; clear hr3; clear hb1
        go_wp2_with fail
        refine hK.out _ _ HS.out (fun hHeld => ?_)
        clear hK K
        try simp only [Act.put, List.setIfInBounds_toArray, List.set_cons_zero, List.set_cons_succ]
        refine wpAnyW_held (i := 3) (by kernel_rfl) (by simp only [List.getElem?_toArray, List.getElem?_cons_succ, List.getElem?_cons_zero]; rfl) (fun K hK => ?_)
        rw [if_pos (by rfl)]
        go_simp
        refine (HSAA.out _ _ _ HR3.out (show RowP _ (.slice Ab la.length cb) la from (AllK.nth HS.out 3 rfl).2)).mono ?_
        rintro _ w8 ⟨rfl, hb1⟩
        clear hHeld
        replace HS := Lib.hid (HS.out.later hb1)
        replace HB := Lib.hid (HB.out.trans (hb1.mono HB.out.size))
        clear HR3; clear hb1
        go_wp2_with fail
        refine hK.out _ _ HS.out (fun hHeld => ?_)
        clear hK K
        try simp only [Act.put, List.setIfInBounds_toArray, List.set_cons_zero, List.set_cons_succ]
        refine wpAnyW_take (i := 4) (v := ?_) (by simp only [List.getElem?_toArray, List.getElem?_cons_succ, List.getElem?_cons_zero]; rfl) (by kernel_rfl) (by kernel_rfl) (by kernel_rfl) (by kernel_rfl) (by kernel_rfl) (fun _ _ _ h => h) (Or.inl ⟨by rfl, ?_⟩) (by assumption) ?_
        rotate_left 1
        · (intro w' hSw; go_simp; try with_reducible rfl)
        try simp only [Act.put, List.setIfInBounds_toArray, List.set_cons_zero, List.set_cons_succ]
        refine wpAnyW_take (i := 5) (v := ?_) (by simp only [List.getElem?_toArray, List.getElem?_cons_succ, List.getElem?_cons_zero]; rfl) (by kernel_rfl) (by kernel_rfl) (by kernel_rfl) (by kernel_rfl) (by kernel_rfl) (fun _ _ _ h => h) (Or.inl ⟨by rfl, ?_⟩) (by assumption) ?_
        rotate_left 1
        · (intro w' hSw; go_simp; try with_reducible rfl)
        try simp only [Act.put, List.setIfInBounds_toArray, List.set_cons_zero, List.set_cons_succ]
        refine wpAnyW_take (i := 6) (v := ?_) (by simp only [List.getElem?_toArray, List.getElem?_cons_succ, List.getElem?_cons_zero]; rfl) (by kernel_rfl) (by kernel_rfl) (by kernel_rfl) (by kernel_rfl) (by kernel_rfl) (fun _ _ _ h => h) (Or.inl ⟨by rfl, ?_⟩) (by assumption) ?_
        rotate_left 1
        · (intro w' hSw; go_simp; try with_reducible rfl)
        try simp only [Act.put, List.setIfInBounds_toArray, List.set_cons_zero, List.set_cons_succ]
        refine wpAnyW_take (i := 7) (v := ?_) (by simp only [List.getElem?_toArray, List.getElem?_cons_succ, List.getElem?_cons_zero]; rfl) (by kernel_rfl) (by kernel_rfl) (by kernel_rfl) (by kernel_rfl) (by kernel_rfl) (fun _ _ _ h => h) (Or.inl ⟨by rfl, ?_⟩) (by assumption) ?_
        rotate_left 1
        · (intro w' hSw; go_simp; try with_reducible rfl)
        try simp only [Act.put, List.setIfInBounds_toArray, List.set_cons_zero, List.set_cons_succ]
        refine wpAnyW_take (i := 8) (v := ?_) (by simp only [List.getElem?_toArray, List.getElem?_cons_succ, List.getElem?_cons_zero]; rfl) (by kernel_rfl) (by kernel_rfl) (by kernel_rfl) (by kernel_rfl) (by kernel_rfl) (fun _ _ _ h => h) (Or.inl ⟨by rfl, ?_⟩) (by assumption) ?_
        rotate_left 1
        · (intro w' hSw; go_simp; try with_reducible rfl)
        try simp only [Act.put, List.setIfInBounds_toArray, List.set_cons_zero, List.set_cons_succ]
        refine wpAnyW_take (i := 9) (v := ?_) (by simp only [List.getElem?_toArray, List.getElem?_cons_succ, List.getElem?_cons_zero]; rfl) (by kernel_rfl) (by kernel_rfl) (by kernel_rfl) (by kernel_rfl) (by kernel_rfl) (fun _ _ _ h => h) (Or.inl ⟨by rfl, ?_⟩) (by assumption) ?_
        rotate_left 1
        · (intro w' hSw; go_simp; try with_reducible rfl)
        try simp only [Act.put, List.setIfInBounds_toArray, List.set_cons_zero, List.set_cons_succ]
        refine wpAnyW_take (i := 10) (v := _) (by simp only [List.getElem?_toArray, List.getElem?_cons_succ, List.getElem?_cons_zero]; rfl) (by kernel_rfl) (by kernel_rfl) (by kernel_rfl) (by kernel_rfl) (by kernel_rfl) (fun _ _ _ h => h) (yB (by rfl) rfl rfl (fun V h => (show Bx V (gc) 27 #[.slice Ac lc.length cc, .int .i64 prc, .int .i64 alc] from (AllK.nth h 4 rfl).1)) Try.underlying27 rfl infoPs) (by assumption) ?_
        try simp only [Act.put, List.setIfInBounds_toArray, List.set_cons_zero, List.set_cons_succ]
        refine wpAnyW_take (i := 12) (v := _) (by simp only [List.getElem?_toArray, List.getElem?_cons_succ, List.getElem?_cons_zero]; rfl) (by kernel_rfl) (by kernel_rfl) (by kernel_rfl) (by kernel_rfl) (by kernel_rfl) (fun _ _ _ h => h) (yB (by rfl) rfl rfl (fun V h => (show Bx V (gd) 33 #[.slice Ad lc.length cd, .int .i64 prc, .int .i64 alc] from (AllK.nth h 5 rfl).1)) Try.underlying33 rfl infoRPs) (by assumption) ?_
        try simp only [Act.put, List.setIfInBounds_toArray, List.set_cons_zero, List.set_cons_succ]
        refine wpAnyW_held (i := 11) (by kernel_rfl) (by simp only [List.getElem?_toArray, List.getElem?_cons_succ, List.getElem?_cons_zero]; rfl) (fun K hK => ?_)
        rw [if_pos (by rfl)]
        go_simp
        refine (HASC.out _ _ (show RowP _ (.slice Ac lc.length cc) lc from (AllK.nth HS.out 4 rfl).2)).mono ?_
        rintro _ w7 ⟨v3, rfl, hr3, hb1⟩
        clear hHeld
        replace HS := Lib.hid (HS.out.later hb1)
        replace HB := Lib.hid (HB.out.trans (hb1.mono HB.out.size))
        have HR3 := Lib.hid hr3; clear hr3; clear hb1
        go_wp2_with fail
        refine hK.out _ _ HS.out (fun hHeld => ?_)
        clear hK K
        try simp only [Act.put, List.setIfInBounds_toArray, List.set_cons_zero, List.set_cons_succ]
        refine wpAnyW_held (i := 13) (by kernel_rfl) (by simp only [List.getElem?_toArray, List.getElem?_cons_succ, List.getElem?_cons_zero]; rfl) (fun K hK => ?_)
        rw [if_pos (by rfl)]
        go_simp
        refine (HSAC.out _ _ _ HR3.out (show RowP _ (.slice Ad lc.length cd) lc from (AllK.nth HS.out 5 rfl).2)).mono ?_
        rintro _ w8 ⟨rfl, hb1⟩
        clear hHeld
        replace HS := Lib.hid (HS.out.later hb1)
        replace HB := Lib.hid (HB.out.trans (hb1.mono HB.out.size))
        clear HR3; clear hb1
        go_wp2_with fail
        refine hK.out _ _ HS.out (fun hHeld => ?_)
        clear hK K
        try simp only [Act.put, List.setIfInBounds_toArray, List.set_cons_zero, List.set_cons_succ]
        refine wpAnyW_take (i := 14) (v := ?_) (by simp only [List.getElem?_toArray, List.getElem?_cons_succ, List.getElem?_cons_zero]; rfl) (by kernel_rfl) (by kernel_rfl) (by kernel_rfl) (by kernel_rfl) (by kernel_rfl) (fun _ _ _ h => h) (Or.inl ⟨by rfl, ?_⟩) (by assumption) ?_
        rotate_left 1
        · (intro w' hSw; go_simp; try with_reducible rfl)
        try simp only [Act.put, List.setIfInBounds_toArray, List.set_cons_zero, List.set_cons_succ]
        refine wpAnyW_take (i := 15) (v := ?_) (by simp only [List.getElem?_toArray, List.getElem?_cons_succ, List.getElem?_cons_zero]; rfl) (by kernel_rfl) (by kernel_rfl) (by kernel_rfl) (by kernel_rfl) (by kernel_rfl) (fun _ _ _ h => h) (Or.inl ⟨by rfl, ?_⟩) (by assumption) ?_
        rotate_left 1
        · (intro w' hSw; go_simp; try with_reducible rfl)
        try simp only [Act.put, List.setIfInBounds_toArray, List.set_cons_zero, List.set_cons_succ]
        refine wpAnyW_take (i := 16) (v := ?_) (by simp only [List.getElem?_toArray, List.getElem?_cons_succ, List.getElem?_cons_zero]; rfl) (by kernel_rfl) (by kernel_rfl) (by kernel_rfl) (by kernel_rfl) (by kernel_rfl) (fun _ _ _ h => h) (Or.inl ⟨by rfl, ?_⟩) (by assumption) ?_
        rotate_left 1
        · (intro w' hSw; go_simp; try with_reducible rfl)
        try simp only [Act.put, List.setIfInBounds_toArray, List.set_cons_zero, List.set_cons_succ]
        refine wpAnyW_take (i := 17) (v := ?_) (by simp only [List.getElem?_toArray, List.getElem?_cons_succ, List.getElem?_cons_zero]; rfl) (by kernel_rfl) (by kernel_rfl) (by kernel_rfl) (by kernel_rfl) (by kernel_rfl) (fun _ _ _ h => h) (Or.inl ⟨by rfl, ?_⟩) (by assumption) ?_
        rotate_left 1
        · (intro w' hSw; go_simp; try with_reducible rfl)
        try simp only [Act.put, List.setIfInBounds_toArray, List.set_cons_zero, List.set_cons_succ]
        refine wpAnyW_take (i := 18) (v := ?_) (by simp only [List.getElem?_toArray, List.getElem?_cons_succ, List.getElem?_cons_zero]; rfl) (by kernel_rfl) (by kernel_rfl) (by kernel_rfl) (by kernel_rfl) (by kernel_rfl) (fun _ _ _ h => h) (Or.inl ⟨by rfl, ?_⟩) (by assumption) ?_
        rotate_left 1
        · (intro w' hSw; go_simp; try with_reducible rfl)
        try simp only [Act.put, List.setIfInBounds_toArray, List.set_cons_zero, List.set_cons_succ]
        refine wpAnyW_take (i := 19) (v := ?_) (by simp only [List.getElem?_toArray, List.getElem?_cons_succ, List.getElem?_cons_zero]; rfl) (by kernel_rfl) (by kernel_rfl) (by kernel_rfl) (by kernel_rfl) (by kernel_rfl) (fun _ _ _ h => h) (Or.inl ⟨by rfl, ?_⟩) (by assumption) ?_
        rotate_left 1
        · (intro w' hSw; go_simp; try with_reducible rfl)
        try simp only [Act.put, List.setIfInBounds_toArray, List.set_cons_zero, List.set_cons_succ]
        refine wpAnyW_take (i := 20) (v := ?_) (by simp only [List.getElem?_toArray, List.getElem?_cons_succ, List.getElem?_cons_zero]; rfl) (by kernel_rfl) (by kernel_rfl) (by kernel_rfl) (by kernel_rfl) (by kernel_rfl) (fun _ _ _ h => h) (Or.inl ⟨by rfl, ?_⟩) (by assumption) ?_
        rotate_left 1
        · (intro w' hSw; go_simp; try with_reducible rfl)
        try simp only [Act.put, List.setIfInBounds_toArray, List.set_cons_zero, List.set_cons_succ]
        refine wpAnyW_take (i := 21) (v := _) (by simp only [List.getElem?_toArray, List.getElem?_cons_succ, List.getElem?_cons_zero]; rfl) (by kernel_rfl) (by kernel_rfl) (by kernel_rfl) (by kernel_rfl) (by kernel_rfl) (fun _ _ _ h => h) (yB (by rfl) rfl rfl (fun V h => (show Bx V (ge) 27 #[.slice Ae le.length ce, .int .i64 pre, .int .i64 ale] from (AllK.nth h 6 rfl).1)) Try.underlying27 rfl infoPs) (by assumption) ?_
        try simp only [Act.put, List.setIfInBounds_toArray, List.set_cons_zero, List.set_cons_succ]
        refine wpAnyW_take (i := 23) (v := _) (by simp only [List.getElem?_toArray, List.getElem?_cons_succ, List.getElem?_cons_zero]; rfl) (by kernel_rfl) (by kernel_rfl) (by kernel_rfl) (by kernel_rfl) (by kernel_rfl) (fun _ _ _ h => h) (yB (by rfl) rfl rfl (fun V h => (show Bx V (gf) 33 #[.slice Af le.length cf, .int .i64 pre, .int .i64 ale] from (AllK.nth h 7 rfl).1)) Try.underlying33 rfl infoRPs) (by assumption) ?_
        try simp only [Act.put, List.setIfInBounds_toArray, List.set_cons_zero, List.set_cons_succ]
        refine wpAnyW_held (i := 22) (by kernel_rfl) (by simp only [List.getElem?_toArray, List.getElem?_cons_succ, List.getElem?_cons_zero]; rfl) (fun K hK => ?_)
        rw [if_pos (by rfl)]
        go_simp
        refine (HASE.out _ _ (show RowP _ (.slice Ae le.length ce) le from (AllK.nth HS.out 6 rfl).2)).mono ?_
        rintro _ w7 ⟨v3, rfl, hr3, hb1⟩
        clear hHeld
        replace HS := Lib.hid (HS.out.later hb1)
        replace HB := Lib.hid (HB.out.trans (hb1.mono HB.out.size))
        have HR3 := Lib.hid hr3; clear hr3; clear hb1
        go_wp2_with fail
        refine hK.out _ _ HS.out (fun hHeld => ?_)
        clear hK K
        try simp only [Act.put, List.setIfInBounds_toArray, List.set_cons_zero, List.set_cons_succ]
        refine wpAnyW_held (i := 24) (by kernel_rfl) (by simp only [List.getElem?_toArray, List.getElem?_cons_succ, List.getElem?_cons_zero]; rfl) (fun K hK => ?_)
        rw [if_pos (by rfl)]
        go_simp
        refine (HSAE.out _ _ _ HR3.out (show RowP _ (.slice Af le.length cf) le from (AllK.nth HS.out 7 rfl).2)).mono ?_
        rintro _ w8 ⟨rfl, hb1⟩
        clear hHeld
        replace HS := Lib.hid (HS.out.later hb1)
        replace HB := Lib.hid (HB.out.trans (hb1.mono HB.out.size))
        clear HR3; clear hb1
        go_wp2_with fail
        refine hK.out _ _ HS.out (fun hHeld => ?_)
        clear hK K
        try simp only [Act.put, List.setIfInBounds_toArray, List.set_cons_zero, List.set_cons_succ]
        refine wpAnyW_take (i := 25) (v := ?_) (by simp only [List.getElem?_toArray, List.getElem?_cons_succ, List.getElem?_cons_zero]; rfl) (by kernel_rfl) (by kernel_rfl) (by kernel_rfl) (by kernel_rfl) (by kernel_rfl) (fun _ _ _ h => h) (Or.inl ⟨by rfl, ?_⟩) (by assumption) ?_
        rotate_left 1
        · (intro w' hSw; go_simp; try with_reducible rfl)
        try simp only [Act.put, List.setIfInBounds_toArray, List.set_cons_zero, List.set_cons_succ]
        refine wpAnyW_take (i := 26) (v := ?_) (by simp only [List.getElem?_toArray, List.getElem?_cons_succ, List.getElem?_cons_zero]; rfl) (by kernel_rfl) (by kernel_rfl) (by kernel_rfl) (by kernel_rfl) (by kernel_rfl) (fun _ _ _ h => h) (Or.inl ⟨by rfl, ?_⟩) (by assumption) ?_
        rotate_left 1
        · (intro w' hSw; go_simp; try with_reducible rfl)
        try simp only [Act.put, List.setIfInBounds_toArray, List.set_cons_zero, List.set_cons_succ]
        refine wpAnyW_take (i := 27) (v := ?_) (by simp only [List.getElem?_toArray, List.getElem?_cons_succ, List.getElem?_cons_zero]; rfl) (by kernel_rfl) (by kernel_rfl) (by kernel_rfl) (by kernel_rfl) (by kernel_rfl) (fun _ _ _ h => h) (Or.inl ⟨by rfl, ?_⟩) (by assumption) ?_
        rotate_left 1
        · (intro w' hSw; go_simp; try with_reducible rfl)
        try simp only [Act.put, List.setIfInBounds_toArray, List.set_cons_zero, List.set_cons_succ]
        refine wpAnyW_take (i := 28) (v := ?_) (by simp only [List.getElem?_toArray, List.getElem?_cons_succ, List.getElem?_cons_zero]; rfl) (by kernel_rfl) (by kernel_rfl) (by kernel_rfl) (by kernel_rfl) (by kernel_rfl) (fun _ _ _ h => h) (Or.inl ⟨by rfl, ?_⟩) (by assumption) ?_
        rotate_left 1
        · (intro w' hSw; go_simp; try with_reducible rfl)
        try simp only [Act.put, List.setIfInBounds_toArray, List.set_cons_zero, List.set_cons_succ]
        refine wpAnyW_take (i := 29) (v := ?_) (by simp only [List.getElem?_toArray, List.getElem?_cons_succ, List.getElem?_cons_zero]; rfl) (by kernel_rfl) (by kernel_rfl) (by kernel_rfl) (by kernel_rfl) (by kernel_rfl) (fun _ _ _ h => h) (Or.inl ⟨by rfl, ?_⟩) (by assumption) ?_
        rotate_left 1
        · (intro w' hSw; go_simp; try with_reducible rfl)
        try simp only [Act.put, List.setIfInBounds_toArray, List.set_cons_zero, List.set_cons_succ]
        refine wpAnyW_take (i := 30) (v := ?_) (by simp only [List.getElem?_toArray, List.getElem?_cons_succ, List.getElem?_cons_zero]; rfl) (by kernel_rfl) (by kernel_rfl) (by kernel_rfl) (by kernel_rfl) (by kernel_rfl) (fun _ _ _ h => h) (Or.inl ⟨by rfl, ?_⟩) (by assumption) ?_
        rotate_left 1
        · (intro w' hSw; go_simp; try with_reducible rfl)
        try simp only [Act.put, List.setIfInBounds_toArray, List.set_cons_zero, List.set_cons_succ]
        refine wpAnyW_take (i := 31) (v := ?_) (by simp only [List.getElem?_toArray, List.getElem?_cons_succ, List.getElem?_cons_zero]; rfl) (by kernel_rfl) (by kernel_rfl) (by kernel_rfl) (by kernel_rfl) (by kernel_rfl) (fun _ _ _ h => h) (Or.inl ⟨by rfl, ?_⟩) (by assumption) ?_
        rotate_left 1
        · (intro w' hSw; go_simp; try with_reducible rfl)
        try simp only [Act.put, List.setIfInBounds_toArray, List.set_cons_zero, List.set_cons_succ]
        refine wpAnyW_take (i := 32) (v := ?_) (by simp only [List.getElem?_toArray, List.getElem?_cons_succ, List.getElem?_cons_zero]; rfl) (by kernel_rfl) (by kernel_rfl) (by kernel_rfl) (by kernel_rfl) (by kernel_rfl) (fun _ _ _ h => h) (Or.inl ⟨by rfl, ?_⟩) (by assumption) ?_
        rotate_left 1
        · (intro w' hSw; go_simp; try with_reducible rfl)
        try simp only [Act.put, List.setIfInBounds_toArray, List.set_cons_zero, List.set_cons_succ]
        refine wpAnyW_take (i := 33) (v := ?_) (by simp only [List.getElem?_toArray, List.getElem?_cons_succ, List.getElem?_cons_zero]; rfl) (by kernel_rfl) (by kernel_rfl) (by kernel_rfl) (by kernel_rfl) (by kernel_rfl) (fun _ _ _ h => h) (Or.inl ⟨by rfl, ?_⟩) (by assumption) ?_
        rotate_left 1
        · (intro w' hSw; go_simp; try with_reducible rfl)
        try simp only [Act.put, List.setIfInBounds_toArray, List.set_cons_zero, List.set_cons_succ]
        refine wpAnyW_take (i := 34) (v := ?_) (by simp only [List.getElem?_toArray, List.getElem?_cons_succ, List.getElem?_cons_zero]; rfl) (by kernel_rfl) (by kernel_rfl) (by kernel_rfl) (by kernel_rfl) (by kernel_rfl) (fun _ _ _ h => h) (Or.inl ⟨by rfl, ?_⟩) (by assumption) ?_
        rotate_left 1
        · (intro w' hSw; go_simp; try with_reducible rfl)
        try simp only [Act.put, List.setIfInBounds_toArray, List.set_cons_zero, List.set_cons_succ]
        refine wpAnyW_take (i := 35) (v := _) (by simp only [List.getElem?_toArray, List.getElem?_cons_succ, List.getElem?_cons_zero]; rfl) (by kernel_rfl) (by kernel_rfl) (by kernel_rfl) (by kernel_rfl) (by kernel_rfl) (fun _ _ _ h => h) (yB (by rfl) rfl rfl (fun V h => (show Bx V (w.heap.size) 27 #[.slice A l.length cap, .int .i64 pr, .int .i64 al] from (AllK.nth h 0 rfl).1)) Try.underlying27 rfl infoPs) (by assumption) ?_
        try simp only [Act.put, List.setIfInBounds_toArray, List.set_cons_zero, List.set_cons_succ]
        refine wpAnyW_take (i := 36) (v := ?_) (by simp only [List.getElem?_toArray, List.getElem?_cons_succ, List.getElem?_cons_zero]; rfl) (by kernel_rfl) (by kernel_rfl) (by kernel_rfl) (by kernel_rfl) (by kernel_rfl) (fun _ _ _ h => h) (Or.inl ⟨by rfl, ?_⟩) (by assumption) ?_
        rotate_left 1
        · (intro w' hSw; go_simp; try with_reducible rfl)
        try simp only [Act.put, List.setIfInBounds_toArray, List.set_cons_zero, List.set_cons_succ]
        refine wpAnyW_take (i := 38) (v := _) (by simp only [List.getElem?_toArray, List.getElem?_cons_succ, List.getElem?_cons_zero]; rfl) (by kernel_rfl) (by kernel_rfl) (by kernel_rfl) (by kernel_rfl) (by kernel_rfl) (fun _ _ _ h => h) (yB (by rfl) rfl rfl (fun V h => (show Bx V (gq) 33 #[.slice Aq l.length cq, .int .i64 pr, .int .i64 al] from (AllK.nth h 1 rfl).1)) Try.underlying33 rfl infoRPs) (by assumption) ?_
        try simp only [Act.put, List.setIfInBounds_toArray, List.set_cons_zero, List.set_cons_succ]
        refine wpAnyW_take (i := 39) (v := ?_) (by simp only [List.getElem?_toArray, List.getElem?_cons_succ, List.getElem?_cons_zero]; rfl) (by kernel_rfl) (by kernel_rfl) (by kernel_rfl) (by kernel_rfl) (by kernel_rfl) (fun _ _ _ h => h) (Or.inl ⟨by rfl, ?_⟩) (by assumption) ?_
        rotate_left 1
        · (intro w' hSw; go_simp; try with_reducible rfl)
        try simp only [Act.put, List.setIfInBounds_toArray, List.set_cons_zero, List.set_cons_succ]
        refine wpAnyW_held (i := 37) (by kernel_rfl) (by simp only [List.getElem?_toArray, List.getElem?_cons_succ, List.getElem?_cons_zero]; rfl) (fun K hK => ?_)
        rw [if_pos (by rfl)]
        go_simp
        refine (HCH.out _ _ (show RowP _ (.slice A l.length cap) l from (AllK.nth HS.out 0 rfl).2)).mono ?_
        rintro _ w8 ⟨rfl, hb1⟩
        clear hHeld
        replace HS := Lib.hid (HS.out.later hb1)
        replace HB := Lib.hid (HB.out.trans (hb1.mono HB.out.size))
        clear hb1
        go_wp2_with fail
        refine hK.out _ _ HS.out (fun hHeld => ?_)
        clear hK K
        try simp only [Act.put, List.setIfInBounds_toArray, List.set_cons_zero, List.set_cons_succ]
        refine wpAnyW_held (i := 40) (by kernel_rfl) (by simp only [List.getElem?_toArray, List.getElem?_cons_succ, List.getElem?_cons_zero]; rfl) (fun K hK => ?_)
        rw [if_pos (by rfl)]
        go_simp
        refine (HRC.out _ _ (show RowP _ (.slice Aq l.length cq) l from (AllK.nth HS.out 1 rfl).2)).mono ?_
        rintro _ w8 ⟨rfl, hb1⟩
        clear hHeld
        replace HS := Lib.hid (HS.out.later hb1)
        replace HB := Lib.hid (HB.out.trans (hb1.mono HB.out.size))
        clear hb1
        go_wp2_with fail
        refine hK.out _ _ HS.out (fun hHeld => ?_)
        clear hK K
        try simp only [Act.put, List.setIfInBounds_toArray, List.set_cons_zero, List.set_cons_succ]
        refine wpAnyW_take (i := 41) (v := ?_) (by simp only [List.getElem?_toArray, List.getElem?_cons_succ, List.getElem?_cons_zero]; rfl) (by kernel_rfl) (by kernel_rfl) (by kernel_rfl) (by kernel_rfl) (by kernel_rfl) (fun _ _ _ h => h) (Or.inl ⟨by rfl, ?_⟩) (by assumption) ?_
        rotate_left 1
        · (intro w' hSw; go_simp; try with_reducible rfl)
        try simp only [Act.put, List.setIfInBounds_toArray, List.set_cons_zero, List.set_cons_succ]
        refine wpAnyW_take (i := 42) (v := ?_) (by simp only [List.getElem?_toArray, List.getElem?_cons_succ, List.getElem?_cons_zero]; rfl) (by kernel_rfl) (by kernel_rfl) (by kernel_rfl) (by kernel_rfl) (by kernel_rfl) (fun _ _ _ h => h) (Or.inl ⟨by rfl, ?_⟩) (by assumption) ?_
        rotate_left 1
        · (intro w' hSw; go_simp; try with_reducible rfl)
        try simp only [Act.put, List.setIfInBounds_toArray, List.set_cons_zero, List.set_cons_succ]
        refine wpAnyW_take (i := 43) (v := ?_) (by simp only [List.getElem?_toArray, List.getElem?_cons_succ, List.getElem?_cons_zero]; rfl) (by kernel_rfl) (by kernel_rfl) (by kernel_rfl) (by kernel_rfl) (by kernel_rfl) (fun _ _ _ h => h) (Or.inl ⟨by rfl, ?_⟩) (by assumption) ?_
        rotate_left 1
        · (intro w' hSw; go_simp; try with_reducible rfl)
        try simp only [Act.put, List.setIfInBounds_toArray, List.set_cons_zero, List.set_cons_succ]
        refine wpAnyW_take (i := 44) (v := _) (by simp only [List.getElem?_toArray, List.getElem?_cons_succ, List.getElem?_cons_zero]; rfl) (by kernel_rfl) (by kernel_rfl) (by kernel_rfl) (by kernel_rfl) (by kernel_rfl) (fun _ _ _ h => h) (yB (by rfl) rfl rfl (fun V h => (show Bx V (w.heap.size) 27 #[.slice A l.length cap, .int .i64 pr, .int .i64 al] from (AllK.nth h 0 rfl).1)) Try.underlying27 rfl infoPs) (by assumption) ?_
        try simp only [Act.put, List.setIfInBounds_toArray, List.set_cons_zero, List.set_cons_succ]
        refine wpAnyW_take (i := 46) (v := _) (by simp only [List.getElem?_toArray, List.getElem?_cons_succ, List.getElem?_cons_zero]; rfl) (by kernel_rfl) (by kernel_rfl) (by kernel_rfl) (by kernel_rfl) (by kernel_rfl) (fun _ _ _ h => h) (yB (by rfl) rfl rfl (fun V h => (show Bx V (gq) 33 #[.slice Aq l.length cq, .int .i64 pr, .int .i64 al] from (AllK.nth h 1 rfl).1)) Try.underlying33 rfl infoRPs) (by assumption) ?_
        try simp only [Act.put, List.setIfInBounds_toArray, List.set_cons_zero, List.set_cons_succ]
        refine wpAnyW_held (i := 45) (by kernel_rfl) (by simp only [List.getElem?_toArray, List.getElem?_cons_succ, List.getElem?_cons_zero]; rfl) (fun K hK => ?_)
        rw [if_pos (by rfl)]
        go_simp
        refine (HAS0.out _ _ (show RowP _ (.slice A l.length cap) l from (AllK.nth HS.out 0 rfl).2)).mono ?_
        rintro _ w7 ⟨v3, rfl, hr3, hb1⟩
        clear hHeld
        replace HS := Lib.hid (HS.out.later hb1)
        replace HB := Lib.hid (HB.out.trans (hb1.mono HB.out.size))
        have HR3 := Lib.hid hr3; clear hr3; clear hb1
        go_wp2_with fail
        refine hK.out _ _ HS.out (fun hHeld => ?_)
        clear hK K
        try simp only [Act.put, List.setIfInBounds_toArray, List.set_cons_zero, List.set_cons_succ]
        refine wpAnyW_held (i := 47) (by kernel_rfl) (by simp only [List.getElem?_toArray, List.getElem?_cons_succ, List.getElem?_cons_zero]; rfl) (fun K hK => ?_)
        rw [if_pos (by rfl)]
        go_simp
        refine (HSA0.out _ _ _ HR3.out (show RowP _ (.slice Aq l.length cq) l from (AllK.nth HS.out 1 rfl).2)).mono ?_
        rintro _ w8 ⟨rfl, hb1⟩
        clear hHeld
        replace HS := Lib.hid (HS.out.later hb1)
        replace HB := Lib.hid (HB.out.trans (hb1.mono HB.out.size))
        clear HR3; clear hb1
        go_wp2_with fail
        refine hK.out _ _ HS.out (fun hHeld => ?_)
        clear hK K
        try simp only [Act.put, List.setIfInBounds_toArray, List.set_cons_zero, List.set_cons_succ]
        refine wpAnyW_take (i := 48) (v := ?_) (by simp only [List.getElem?_toArray, List.getElem?_cons_succ, List.getElem?_cons_zero]; rfl) (by kernel_rfl) (by kernel_rfl) (by kernel_rfl) (by kernel_rfl) (by kernel_rfl) (fun _ _ _ h => h) (Or.inl ⟨by rfl, ?_⟩) (by assumption) ?_
        rotate_left 1
        · (intro w' hSw; go_simp; try with_reducible rfl)
        try simp only [Act.put, List.setIfInBounds_toArray, List.set_cons_zero, List.set_cons_succ]
        refine wpAnyW_take (i := 49) (v := ?_) (by simp only [List.getElem?_toArray, List.getElem?_cons_succ, List.getElem?_cons_zero]; rfl) (by kernel_rfl) (by kernel_rfl) (by kernel_rfl) (by kernel_rfl) (by kernel_rfl) (fun _ _ _ h => h) (Or.inl ⟨by rfl, ?_⟩) (by assumption) ?_
        rotate_left 1
        · (intro w' hSw; go_simp; try with_reducible rfl)
        try simp only [Act.put, List.setIfInBounds_toArray, List.set_cons_zero, List.set_cons_succ]
        refine wpAnyW_done (by kernel_rfl) ?_ _
        refine NoPanic.normal ?_
        go_wp2_with fail
        go_ret
        exact ⟨rfl, HB.out⟩
  · have hl' : (20 : Int) < (l.length : Int) := by omega
    go_enter Try.func4, Try.ntmps4
    go_wp2_with (first
    | (go_at_call 8; (with_reducible refine (HS.out _).mono ?_); rintro e w1 ⟨rfl, hb1⟩; replace HA := Lib.hid (HA.out.later hb1); clear hb1; have c0 := HA.out.own.cell 0 (.slice A l.length cap) rfl))
    go_ret
    exact ⟨rfl, HA.out.below⟩

set_option maxRecDepth 100000 in
theorem lifted (os : Os) (started : os.Started) (H : Type) (enc : TypeId × Value → H) :
    ReturnsInHanded {} Try.checked os 4 .any (Rows.pathStepsSpec.pre6 enc Try.prog Try.f4 Rows.pathStepsRow.domain false) (Rows.pathStepsSpec.post enc Try.prog Try.f4 false true false false) := by
  refine returnsInHanded_of_change_sized (C := Try.checked) own started (by kernel_rfl) Try.func4
    (ChangeSpec.witness6 (enc := enc) (C := Try.checked) false ⟨#[], #[.agg #[.slice none 0 0, .int .i64 0, .int .i64 0], .int .i64 0, .int .u32 0, .int .i64 0], []⟩ 8 (by kernel_rfl) (by kernel_rfl) (by kernel_rfl) (by kernel_rfl)) ?_
  intro W base args ds gs before hval0 hW _ hreach _
  have hval : ∀ (j : Nat) t v, Try.f4.params[j]? = some t → args[j]? = some v → Value.okWide Try.prog W .any base t v := hval0
  obtain ⟨p, q, hA0, _, _, _, _⟩ := id hW
  have hA : DataW.TrodAll enc Try.prog W 0 (fun _ => true) true Try.f4.params.toList args.toList ds p := hA0
  rw [Try.params4] at hA hval
  obtain ⟨v0, vs0, d0, ds0, p0, q0, hargs, rfl, rfl, h0, r0⟩ := trodAll_cons hA
  obtain ⟨v1, vs1, d1, ds1, p1, q1, rfl, rfl, rfl, h1, r1⟩ := trodAll_cons r0
  obtain ⟨v2, vs2, d2, ds2, p2, q2, rfl, rfl, rfl, h2, r2⟩ := trodAll_cons r1
  obtain ⟨v3, vs3, d3, ds3, p3, q3, rfl, rfl, rfl, h3, r3⟩ := trodAll_cons r2
  obtain ⟨rfl, rfl, rfl⟩ := trodAll_nil r3
  obtain rfl : args = #[v0, v1, v2, v3] := by cases args; simp_all
  obtain ⟨f0, t0, g0, u0, l0, rfl, n0⟩ := packet_in (hval 0 27 v0 rfl rfl) h0
  obtain ⟨a1, rfl, rfl, rfl, w1⟩ := open_int Try.underlying3 (hval 1 3 v1 rfl rfl) h1
  obtain ⟨a2, rfl, rfl, rfl, w2⟩ := open_int Try.underlying41 (hval 2 41 v2 rfl rfl) h2
  obtain ⟨n2, rfl, b2⟩ := nat_u32 w2
  obtain ⟨a3, rfl, rfl, rfl, w3⟩ := open_int Try.underlying3 (hval 3 3 v3 rfl rfl) h3
  refine (walk f0 t0 u0 l0 a1 (n2 : Int) a3 W n0).mono fun e W' ⟨he, hg⟩ => ?_
  subst he
  exact ⟨_, rfl, law_post laidOut Try.underlying4 (by kernel_rfl) (by kernel_rfl) rfl hW (by simp [Rows.pathStepsSpec]) hg⟩

theorem proved : Rows.PathStepsSaid :=
  OpenClaim.holds_of_wide 4 Try.f4 rfl rfl rfl rfl rfl rfl rfl ⟨rfl, rfl, rfl, rfl, rfl⟩ rfl rfl rfl rfl rfl (by kernel_rfl) Try.func4 (by kernel_rfl)
    (of_decide_eq_true (by kernel_rfl)) (by unfold Func.isWrapper; first | (rw [if_pos (by decide +kernel)]; kernel_rfl) | (rw [if_neg (by decide +kernel)]; exact ⟨rfl, rfl⟩))
    (fun os started H enc _ => lifted os started H enc)
#print axioms proved
end Go.Proofs.Yteiifkooegpdaaa.pathSteps
