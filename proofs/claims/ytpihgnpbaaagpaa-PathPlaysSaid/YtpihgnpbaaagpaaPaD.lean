/-
  Package path: what is done to a path of a copy when an answer came, and when one failed: contracts.
-/
import Derived.Test.YtpihgnpbaaagpaaPaC
namespace Go.Proofs.Ytpihgnpbaaagpaa
open Go.RowKit
set_option linter.unusedVariables false
set_option linter.unusedSimpArgs false
set_option maxRecDepth 100000

set_option maxHeartbeats 2000000 in
theorem ack_not (x : Pa) (nonce now : Int) (v : Value) (pr al : Int) (b0 : Bool) (g gn gw ga gq o : Nat) (cs0 : Array Value) (hgq : g ≠ gq) (hga : g ≠ ga) (hqa : gq ≠ ga) (hn1 : gn ≠ g) (hn2 : gn ≠ gq) (hn3 : gn ≠ ga) (hw1 : gw ≠ g) (hw2 : gw ≠ gq) (hw3 : gw ≠ ga) (w : World) (hp : Pin g 47 cs0 o (cellsPa x) w) (hn : Bx w gn 41 #[.int .u32 nonce]) (hw : Bx w gw 3 #[.int .i64 now]) (ha : Bx w ga 4 #[.bool b0]) (hq : Bx w gq 27 #[v, .int .i64 pr, .int .i64 al]) (hx : ansB x nonce now = false) :
    Calls Try.prog 38 #[.pointer (some ⟨g, o, none⟩), .pointer (some ⟨gn, 0, none⟩), .pointer (some ⟨gw, 0, none⟩), .pointer (some ⟨ga, 0, none⟩), .pointer (some ⟨gq, 0, none⟩)] w fun e w' => e = .returned (.tuple #[]) ∧ Pin g 47 cs0 o (cellsPa (x)) w' ∧ Bx w' gq 27 #[v, .int .i64 pr, .int .i64 al] ∧ Bx w' ga 4 #[.bool false] ∧ Tw [g, gq, ga] w w' := by
  have HX := Lib.hid (fun W => answers_any x nonce now W)
  rw [hx] at HX
  obtain ⟨ad, st, er, tm, wn, no, be, se⟩ := x
  have HP : Hid (Pin g 47 cs0 o (cellsPa ⟨ad, st, er, tm, wn, no, be, se⟩) w.drew) := Lib.hid hp
  have HN : Hid (Bx w.drew gn 41 #[.int .u32 nonce]) := Lib.hid hn
  have HW : Hid (Bx w.drew gw 3 #[.int .i64 now]) := Lib.hid hw
  have HA := Lib.hid ha
  have HQ := Lib.hid hq
  have HT := Lib.hid (Tw.refl [g, gq, ga] w)
  clear hp hn hw ha hq
  clear hx
  go_enter Try.func38, Try.ntmps38
  go_wp2_with fail
  refine wp_region_noPanic ?_
  refine wp_region_waits (S := fun V => Pin g 47 cs0 o (cellsPa ⟨ad, st, er, tm, wn, no, be, se⟩) V ∧ Bx V gn 41 #[.int .u32 nonce] ∧ Bx V gw 3 #[.int .i64 now]) [] (by kernel_rfl) ⟨HP.out, HN.out, HW.out⟩ (fun hHeld => ?_)
  replace HQ : Hid (Bx w.drew gq 27 #[v, .int .i64 pr, .int .i64 al]) := Lib.hid HQ.out
  replace HA : Hid (Bx w.drew ga 4 #[.bool b0]) := Lib.hid HA.out
  replace HT := Lib.hid HT.out.drew
  clear HP HN HW
  refine wpAnyW_take (i := 0) (v := ?_) (by simp only [List.getElem?_toArray, List.getElem?_cons_zero]; rfl) (by kernel_rfl) (by kernel_rfl) (by kernel_rfl) (by kernel_rfl) (by kernel_rfl) (fun _ _ _ h => h) (Or.inl ⟨by rfl, ?_⟩) (by assumption) ?_
  rotate_left 1
  · (intro w' hSw; go_simp; try with_reducible rfl)
  try simp only [Act.put, List.setIfInBounds_toArray, List.set_cons_zero, List.set_cons_succ]
  refine wpAnyW_take (i := 1) (v := ?_) (by simp only [List.getElem?_toArray, List.getElem?_cons_succ, List.getElem?_cons_zero]; rfl) (by kernel_rfl) (by kernel_rfl) (by kernel_rfl) (by kernel_rfl) (by kernel_rfl) (fun _ _ _ h => h) (Or.inl ⟨by rfl, ?_⟩) (by assumption) ?_
  rotate_left 1
  · (intro w' hSw; go_simp; try with_reducible rfl)
  try simp only [Act.put, List.setIfInBounds_toArray, List.set_cons_zero, List.set_cons_succ]
  refine wpAnyW_take (i := 2) (v := _) (by simp only [List.getElem?_toArray, List.getElem?_cons_succ, List.getElem?_cons_zero]; rfl) (by kernel_rfl) (by kernel_rfl) (by kernel_rfl) (by kernel_rfl) (by kernel_rfl) (fun _ _ _ h => h) (yPp (by rfl) 0 (cellsPa ⟨ad, st, er, tm, wn, no, be, se⟩) rfl rfl (fun V h => h.1) (pa_part ⟨ad, st, er, tm, wn, no, be, se⟩) Try.underlying47 rfl infoPa) (by assumption) ?_
  try simp only [Act.put, List.setIfInBounds_toArray, List.set_cons_zero, List.set_cons_succ]
  refine wpAnyW_take (i := 3) (v := ?_) (by simp only [List.getElem?_toArray, List.getElem?_cons_succ, List.getElem?_cons_zero]; rfl) (by kernel_rfl) (by kernel_rfl) (by kernel_rfl) (by kernel_rfl) (by kernel_rfl) (fun _ _ _ h => h) (Or.inl ⟨by rfl, ?_⟩) (by assumption) ?_
  rotate_left 1
  · (intro w' hSw; have hq : w'.cell? ⟨gn, 0, none⟩ = some (.int .u32 nonce) := hSw.2.1.cell 0 _ rfl; go_simp; try with_reducible rfl)
  try simp only [Act.put, List.setIfInBounds_toArray, List.set_cons_zero, List.set_cons_succ]
  refine wpAnyW_take (i := 4) (v := ?_) (by simp only [List.getElem?_toArray, List.getElem?_cons_succ, List.getElem?_cons_zero]; rfl) (by kernel_rfl) (by kernel_rfl) (by kernel_rfl) (by kernel_rfl) (by kernel_rfl) (fun _ _ _ h => h) (Or.inl ⟨by rfl, ?_⟩) (by assumption) ?_
  rotate_left 1
  · (intro w' hSw; have hq : w'.cell? ⟨gw, 0, none⟩ = some (.int .i64 now) := hSw.2.2.cell 0 _ rfl; go_simp; try with_reducible rfl)
  try simp only [Act.put, List.setIfInBounds_toArray, List.set_cons_zero, List.set_cons_succ]
  refine wpAnyW_held (i := 5) (by kernel_rfl) (by simp only [List.getElem?_toArray, List.getElem?_cons_succ, List.getElem?_cons_zero]; rfl) (fun K hK => ?_)
  rw [if_pos (by rfl)]
  go_simp
  refine (HX.out _).mono ?_
  rintro _ w1 ⟨rfl, hb⟩
  have hS := And.intro (hHeld.1.later hb) (And.intro (hHeld.2.1.later hb) (hHeld.2.2.later hb))
  replace HQ := Lib.hid (HQ.out.later hb)
  replace HA := Lib.hid (HA.out.later hb)
  replace HT := Lib.hid (HT.out.below hb)
  clear hHeld hb
  go_wp2_with fail
  refine hK.out _ _ hS (fun hHeld => ?_)
  clear hK K hS
  try simp only [Act.put, List.setIfInBounds_toArray, List.set_cons_zero, List.set_cons_succ]
  refine wpAnyW_held (i := 6) (by kernel_rfl) (by simp only [List.getElem?_toArray, List.getElem?_cons_succ, List.getElem?_cons_zero]; rfl) (fun K hK => ?_)
  rw [if_pos (by rfl)]
  refine wpF (.bool false) rfl rfl rfl HA.out (by show 0 < 1; decide) infoB rfl ?_
  intro w2 ht hg he
  clear he
  have hS := And.intro (hHeld.1.kept hg hga) (And.intro (hHeld.2.1.kept hg hn3) (hHeld.2.2.kept hg hw3))
  replace HQ := Lib.hid (HQ.out.kept hg hqa)
  replace HA : Hid (Bx w2 ga 4 #[.bool false]) := Lib.hid ht
  replace HT := Lib.hid (HT.out.grown hg (by simp))
  clear ht hg hHeld
  refine hK.out _ _ hS (fun hHeld => ?_)
  clear hK K hS
  try simp only [Act.put, List.setIfInBounds_toArray, List.set_cons_zero, List.set_cons_succ]
  refine wpAnyW_done (by kernel_rfl) ?_ _
  refine NoPanic.normal ?_
  have HP := Lib.hid hHeld.1
  have HW := Lib.hid hHeld.2.2
  clear hHeld
  have ca := HA.out.cell 0 _ rfl
  clear HX HW
  go_wp2_with fail
  refine bodyPost_ret (results_none rfl _ _ _) rfl ?_
  exact ⟨rfl, HP.out, HQ.out, HA.out, HT.out⟩
set_option maxHeartbeats 4000000 in
theorem ack_yes (x : Pa) (nonce now : Int) (v : Value) (pr al : Int) (b0 : Bool) (g gn gw ga gq o : Nat) (cs0 : Array Value) (hgq : g ≠ gq) (hga : g ≠ ga) (hqa : gq ≠ ga) (hn1 : gn ≠ g) (hn2 : gn ≠ gq) (hn3 : gn ≠ ga) (hw1 : gw ≠ g) (hw2 : gw ≠ gq) (hw3 : gw ≠ ga) (w : World) (hp : Pin g 47 cs0 o (cellsPa x) w) (hn : Bx w gn 41 #[.int .u32 nonce]) (hw : Bx w gw 3 #[.int .i64 now]) (ha : Bx w ga 4 #[.bool b0]) (hq : Bx w gq 27 #[v, .int .i64 pr, .int .i64 al]) (hx : ansB x nonce now = true) :
    Calls Try.prog 38 #[.pointer (some ⟨g, o, none⟩), .pointer (some ⟨gn, 0, none⟩), .pointer (some ⟨gw, 0, none⟩), .pointer (some ⟨ga, 0, none⟩), .pointer (some ⟨gq, 0, none⟩)] w fun e w' => e = .returned (.tuple #[]) ∧ Pin g 47 cs0 o (cellsPa (ackF now x)) w' ∧ Bx w' gq 27 #[v, .int .i64 pr, .int .i64 0] ∧ Bx w' ga 4 #[.bool true] ∧ Tw [g, gq, ga] w w' := by
  have HX := Lib.hid (fun W => answers_any x nonce now W)
  rw [hx] at HX
  obtain ⟨ad, st, er, tm, wn, no, be, se⟩ := x
  obtain ⟨D, hD⟩ : ∃ D, wrap64 (now - be) = D := ⟨_, rfl⟩
  have HM := Lib.hid (fun W => sample_any tm D W)
  have HF := Lib.hid (show ackF now ⟨ad, st, er, tm, wn, no, be, se⟩ = heardF ⟨ad, upSt st, er, sampleT tm D, wn, no, be, 0⟩ by rw [← hD]; rfl)
  have hD2 : IntKind.i64.wrap (now - be) = D := by rw [IntKind.wrap_i64, ← hD]; unfold wrap64; omega
  generalize sampleT tm D = tm9 at *
  generalize ackF now ⟨ad, st, er, tm, wn, no, be, se⟩ = y at *
  have HP : Hid (Pin g 47 cs0 o (cellsPa ⟨ad, st, er, tm, wn, no, be, se⟩) w.drew) := Lib.hid hp
  have HN : Hid (Bx w.drew gn 41 #[.int .u32 nonce]) := Lib.hid hn
  have HW : Hid (Bx w.drew gw 3 #[.int .i64 now]) := Lib.hid hw
  have HA := Lib.hid ha
  have HQ := Lib.hid hq
  have HT := Lib.hid (Tw.refl [g, gq, ga] w)
  clear hp hn hw ha hq
  clear hx
  by_cases h1 : st = 1
  · subst h1
    rw [show upSt 1 = 2 from rfl] at HF
    go_enter Try.func38, Try.ntmps38
    go_wp2_with fail
    refine wp_region_noPanic ?_
    refine wp_region_waits (S := fun V => Pin g 47 cs0 o (cellsPa ⟨ad, 1, er, tm, wn, no, be, se⟩) V ∧ Bx V gn 41 #[.int .u32 nonce] ∧ Bx V gw 3 #[.int .i64 now]) [] (by kernel_rfl) ⟨HP.out, HN.out, HW.out⟩ (fun hHeld => ?_)
    replace HQ : Hid (Bx w.drew gq 27 #[v, .int .i64 pr, .int .i64 al]) := Lib.hid HQ.out
    replace HA : Hid (Bx w.drew ga 4 #[.bool b0]) := Lib.hid HA.out
    replace HT := Lib.hid HT.out.drew
    clear HP HN HW
    refine wpAnyW_take (i := 0) (v := ?_) (by simp only [List.getElem?_toArray, List.getElem?_cons_zero]; rfl) (by kernel_rfl) (by kernel_rfl) (by kernel_rfl) (by kernel_rfl) (by kernel_rfl) (fun _ _ _ h => h) (Or.inl ⟨by rfl, ?_⟩) (by assumption) ?_
    rotate_left 1
    · (intro w' hSw; go_simp; try with_reducible rfl)
    try simp only [Act.put, List.setIfInBounds_toArray, List.set_cons_zero, List.set_cons_succ]
    refine wpAnyW_take (i := 1) (v := ?_) (by simp only [List.getElem?_toArray, List.getElem?_cons_succ, List.getElem?_cons_zero]; rfl) (by kernel_rfl) (by kernel_rfl) (by kernel_rfl) (by kernel_rfl) (by kernel_rfl) (fun _ _ _ h => h) (Or.inl ⟨by rfl, ?_⟩) (by assumption) ?_
    rotate_left 1
    · (intro w' hSw; go_simp; try with_reducible rfl)
    try simp only [Act.put, List.setIfInBounds_toArray, List.set_cons_zero, List.set_cons_succ]
    refine wpAnyW_take (i := 2) (v := _) (by simp only [List.getElem?_toArray, List.getElem?_cons_succ, List.getElem?_cons_zero]; rfl) (by kernel_rfl) (by kernel_rfl) (by kernel_rfl) (by kernel_rfl) (by kernel_rfl) (fun _ _ _ h => h) (yPp (by rfl) 0 (cellsPa ⟨ad, 1, er, tm, wn, no, be, se⟩) rfl rfl (fun V h => h.1) (pa_part ⟨ad, 1, er, tm, wn, no, be, se⟩) Try.underlying47 rfl infoPa) (by assumption) ?_
    try simp only [Act.put, List.setIfInBounds_toArray, List.set_cons_zero, List.set_cons_succ]
    refine wpAnyW_take (i := 3) (v := ?_) (by simp only [List.getElem?_toArray, List.getElem?_cons_succ, List.getElem?_cons_zero]; rfl) (by kernel_rfl) (by kernel_rfl) (by kernel_rfl) (by kernel_rfl) (by kernel_rfl) (fun _ _ _ h => h) (Or.inl ⟨by rfl, ?_⟩) (by assumption) ?_
    rotate_left 1
    · (intro w' hSw; have hq : w'.cell? ⟨gn, 0, none⟩ = some (.int .u32 nonce) := hSw.2.1.cell 0 _ rfl; go_simp; try with_reducible rfl)
    try simp only [Act.put, List.setIfInBounds_toArray, List.set_cons_zero, List.set_cons_succ]
    refine wpAnyW_take (i := 4) (v := ?_) (by simp only [List.getElem?_toArray, List.getElem?_cons_succ, List.getElem?_cons_zero]; rfl) (by kernel_rfl) (by kernel_rfl) (by kernel_rfl) (by kernel_rfl) (by kernel_rfl) (fun _ _ _ h => h) (Or.inl ⟨by rfl, ?_⟩) (by assumption) ?_
    rotate_left 1
    · (intro w' hSw; have hq : w'.cell? ⟨gw, 0, none⟩ = some (.int .i64 now) := hSw.2.2.cell 0 _ rfl; go_simp; try with_reducible rfl)
    try simp only [Act.put, List.setIfInBounds_toArray, List.set_cons_zero, List.set_cons_succ]
    refine wpAnyW_held (i := 5) (by kernel_rfl) (by simp only [List.getElem?_toArray, List.getElem?_cons_succ, List.getElem?_cons_zero]; rfl) (fun K hK => ?_)
    rw [if_pos (by rfl)]
    go_simp
    refine (HX.out _).mono ?_
    rintro _ w1 ⟨rfl, hb⟩
    have hS := And.intro (hHeld.1.later hb) (And.intro (hHeld.2.1.later hb) (hHeld.2.2.later hb))
    replace HQ := Lib.hid (HQ.out.later hb)
    replace HA := Lib.hid (HA.out.later hb)
    replace HT := Lib.hid (HT.out.below hb)
    clear hHeld hb
    go_wp2_with fail
    refine hK.out _ _ hS (fun hHeld => ?_)
    clear hK K hS
    try simp only [Act.put, List.setIfInBounds_toArray, List.set_cons_zero, List.set_cons_succ]
    refine wpAnyW_held (i := 6) (by kernel_rfl) (by simp only [List.getElem?_toArray, List.getElem?_cons_succ, List.getElem?_cons_zero]; rfl) (fun K hK => ?_)
    rw [if_pos (by rfl)]
    refine wpF (.bool true) rfl rfl rfl HA.out (by show 0 < 1; decide) infoB rfl ?_
    intro w2 ht hg he
    clear he
    have hS := And.intro (hHeld.1.kept hg hga) (And.intro (hHeld.2.1.kept hg hn3) (hHeld.2.2.kept hg hw3))
    replace HQ := Lib.hid (HQ.out.kept hg hqa)
    replace HA : Hid (Bx w2 ga 4 #[.bool true]) := Lib.hid ht
    replace HT := Lib.hid (HT.out.grown hg (by simp))
    clear ht hg hHeld
    refine hK.out _ _ hS (fun hHeld => ?_)
    clear hK K hS
    try simp only [Act.put, List.setIfInBounds_toArray, List.set_cons_zero, List.set_cons_succ]
    refine wpAnyW_done (by kernel_rfl) ?_ _
    refine NoPanic.normal ?_
    have HP := Lib.hid hHeld.1
    have HW := Lib.hid hHeld.2.2
    clear hHeld
    have ca := HA.out.cell 0 _ rfl
    clear HX
    go_wp2_with fail
    clear ca
    refine wp_region_noPanic ?_
    refine wp_region_waits (S := fun V => Pin g 47 cs0 o (cellsPa ⟨ad, 1, er, tm, wn, no, be, se⟩) V ∧ Bx V gw 3 #[.int .i64 now]) [14] (by kernel_rfl) ⟨HP.out, HW.out⟩ (fun hHeld => ?_)
    replace HQ : Hid (Bx w2.drew gq 27 #[v, .int .i64 pr, .int .i64 al]) := Lib.hid HQ.out
    replace HA : Hid (Bx w2.drew ga 4 #[.bool true]) := Lib.hid HA.out
    replace HT := Lib.hid HT.out.drew
    clear HP HW
    refine wpAnyW_take (i := 0) (v := ?_) (by simp only [List.getElem?_toArray, List.getElem?_cons_zero]; rfl) (by kernel_rfl) (by kernel_rfl) (by kernel_rfl) (by kernel_rfl) (by kernel_rfl) (fun _ _ _ h => h) (Or.inl ⟨by rfl, ?_⟩) (by assumption) ?_
    rotate_left 1
    · (intro w' hSw; go_simp; try with_reducible rfl)
    try simp only [Act.put, List.setIfInBounds_toArray, List.set_cons_zero, List.set_cons_succ]
    refine wpAnyW_take (i := 1) (v := ?_) (by simp only [List.getElem?_toArray, List.getElem?_cons_succ, List.getElem?_cons_zero]; rfl) (by kernel_rfl) (by kernel_rfl) (by kernel_rfl) (by kernel_rfl) (by kernel_rfl) (fun _ _ _ h => h) (Or.inl ⟨by rfl, ?_⟩) (by assumption) ?_
    rotate_left 1
    · (intro w' hSw; go_simp; try with_reducible rfl)
    try simp only [Act.put, List.setIfInBounds_toArray, List.set_cons_zero, List.set_cons_succ]
    refine wpAnyW_take (i := 2) (v := ?_) (by simp only [List.getElem?_toArray, List.getElem?_cons_succ, List.getElem?_cons_zero]; rfl) (by kernel_rfl) (by kernel_rfl) (by kernel_rfl) (by kernel_rfl) (by kernel_rfl) (fun _ _ _ h => h) (Or.inl ⟨by rfl, ?_⟩) (by assumption) ?_
    rotate_left 1
    · (intro w' hSw; go_simp; try with_reducible rfl)
    try simp only [Act.put, List.setIfInBounds_toArray, List.set_cons_zero, List.set_cons_succ]
    refine wpAnyW_take (i := 3) (v := ?_) (by simp only [List.getElem?_toArray, List.getElem?_cons_succ, List.getElem?_cons_zero]; rfl) (by kernel_rfl) (by kernel_rfl) (by kernel_rfl) (by kernel_rfl) (by kernel_rfl) (fun _ _ _ h => h) (Or.inl ⟨by rfl, ?_⟩) (by assumption) ?_
    rotate_left 1
    · (intro w' hSw; go_simp; try with_reducible rfl)
    try simp only [Act.put, List.setIfInBounds_toArray, List.set_cons_zero, List.set_cons_succ]
    refine wpAnyW_take (i := 4) (v := _) (by simp only [List.getElem?_toArray, List.getElem?_cons_succ, List.getElem?_cons_zero]; rfl) (by kernel_rfl) (by kernel_rfl) (by kernel_rfl) (by kernel_rfl) (by kernel_rfl) (fun _ _ _ h => h) (yPp (by rfl) 3 (cellsT tm) rfl rfl (fun V h => h.1) (tm_part ⟨ad, 1, er, tm, wn, no, be, se⟩) Try.underlying43 rfl infoTm) (by assumption) ?_
    try simp only [Act.put, List.setIfInBounds_toArray, List.set_cons_zero, List.set_cons_succ]
    refine wpAnyW_take (i := 5) (v := ?_) (by simp only [List.getElem?_toArray, List.getElem?_cons_succ, List.getElem?_cons_zero]; rfl) (by kernel_rfl) (by kernel_rfl) (by kernel_rfl) (by kernel_rfl) (by kernel_rfl) (fun _ _ _ h => h) (Or.inl ⟨by rfl, ?_⟩) (by assumption) ?_
    rotate_left 1
    · (intro w' hSw; have hq : w'.cell? ⟨gw, 0, none⟩ = some (.int .i64 now) := hSw.2.cell 0 _ rfl; go_simp; try with_reducible rfl)
    try simp only [Act.put, List.setIfInBounds_toArray, List.set_cons_zero, List.set_cons_succ]
    refine wpAnyW_take (i := 6) (v := ?_) (by simp only [List.getElem?_toArray, List.getElem?_cons_succ, List.getElem?_cons_zero]; rfl) (by kernel_rfl) (by kernel_rfl) (by kernel_rfl) (by kernel_rfl) (by kernel_rfl) (fun _ _ _ h => h) (Or.inl ⟨by rfl, ?_⟩) (by assumption) ?_
    rotate_left 1
    · (intro w' hSw; go_simp; try with_reducible rfl)
    try simp only [Act.put, List.setIfInBounds_toArray, List.set_cons_zero, List.set_cons_succ]
    refine wpAnyW_take (i := 7) (v := ?_) (by simp only [List.getElem?_toArray, List.getElem?_cons_succ, List.getElem?_cons_zero]; rfl) (by kernel_rfl) (by kernel_rfl) (by kernel_rfl) (by kernel_rfl) (by kernel_rfl) (fun _ _ _ h => h) (Or.inl ⟨by rfl, ?_⟩) (by assumption) ?_
    rotate_left 1
    · (intro w' hSw; go_simp; try with_reducible rfl)
    try simp only [Act.put, List.setIfInBounds_toArray, List.set_cons_zero, List.set_cons_succ]
    refine wpAnyW_take (i := 8) (v := ?_) (by simp only [List.getElem?_toArray, List.getElem?_cons_succ, List.getElem?_cons_zero]; rfl) (by kernel_rfl) (by kernel_rfl) (by kernel_rfl) (by kernel_rfl) (by kernel_rfl) (fun _ _ _ h => h) (Or.inl ⟨by rfl, ?_⟩) (by assumption) ?_
    rotate_left 1
    · (intro w' hSw; go_simp; try with_reducible rfl)
    try simp only [Act.put, List.setIfInBounds_toArray, List.set_cons_zero, List.set_cons_succ]
    refine wpAnyW_take (i := 9) (v := ?_) (by simp only [List.getElem?_toArray, List.getElem?_cons_succ, List.getElem?_cons_zero]; rfl) (by kernel_rfl) (by kernel_rfl) (by kernel_rfl) (by kernel_rfl) (by kernel_rfl) (fun _ _ _ h => h) (Or.inl ⟨by rfl, ?_⟩) (by assumption) ?_
    rotate_left 1
    · (intro w' hSw; have hq : w'.cell? ⟨g, o + 12, none⟩ = some (.int .i64 be) := hSw.1.cell 12 _ rfl; go_simp; try with_reducible rfl)
    try simp only [Act.put, List.setIfInBounds_toArray, List.set_cons_zero, List.set_cons_succ]
    refine wpAnyW_take (i := 10) (v := ?_) (by simp only [List.getElem?_toArray, List.getElem?_cons_succ, List.getElem?_cons_zero]; rfl) (by kernel_rfl) (by kernel_rfl) (by kernel_rfl) (by kernel_rfl) (by kernel_rfl) (fun _ _ _ h => h) (Or.inl ⟨by rfl, ?_⟩) (by assumption) ?_
    rotate_left 1
    · (intro w' hSw; go_simp; try with_reducible rfl)
    try simp only [Act.put, List.setIfInBounds_toArray, List.set_cons_zero, List.set_cons_succ]
    refine wpAnyW_held (i := 11) (by kernel_rfl) (by simp only [List.getElem?_toArray, List.getElem?_cons_succ, List.getElem?_cons_zero]; rfl) (fun K hK => ?_)
    rw [if_pos (by rfl)]
    go_simp
    refine (HM.out _).mono ?_
    rintro _ w1 ⟨rfl, hb⟩
    have hS := And.intro (hHeld.1.later hb) (hHeld.2.later hb)
    replace HQ := Lib.hid (HQ.out.later hb)
    replace HA := Lib.hid (HA.out.later hb)
    replace HT := Lib.hid (HT.out.below hb)
    clear hHeld hb
    go_wp2_with fail
    refine hK.out _ _ hS (fun hHeld => ?_)
    clear hK K hS
    try simp only [Act.put, List.setIfInBounds_toArray, List.set_cons_zero, List.set_cons_succ]
    refine wpAnyW_held (i := 12) (by kernel_rfl) (by simp only [List.getElem?_toArray, List.getElem?_cons_succ, List.getElem?_cons_zero]; rfl) (fun K hK => ?_)
    rw [if_pos (by rfl)]
    go_simp
    refine hK.out _ _ hHeld (fun hHeld => ?_)
    clear hK K
    try simp only [Act.put, List.setIfInBounds_toArray, List.set_cons_zero, List.set_cons_succ]
    refine wpAnyW_held (i := 13) (by kernel_rfl) (by simp only [List.getElem?_toArray, List.getElem?_cons_succ, List.getElem?_cons_zero]; rfl) (fun K hK => ?_)
    rw [if_pos (by rfl)]
    go_simp
    refine hK.out _ _ hHeld (fun hHeld => ?_)
    clear hK K
    try simp only [Act.put, List.setIfInBounds_toArray, List.set_cons_zero, List.set_cons_succ]
    refine wpAnyW_freed (i := 14) (by kernel_rfl) (by kernel_rfl) (by simp only [List.getElem?_toArray, List.getElem?_cons_succ, List.getElem?_cons_zero]; rfl) (fun K hK => ?_)
    rw [if_pos (by rfl)]
    refine wpPp (xs' := cellsPa (⟨ad, 1, er, tm9, wn, no, be, se⟩ : Pa)) 3 (cellsT tm9) rfl rfl rfl hHeld.1 (by show 3 + 5 ≤ 14; decide) infoTm (cellsT_one _) rfl ?_
    intro w3 ht hg
    have HP := Lib.hid ht
    replace HQ := Lib.hid (HQ.out.kept hg (Ne.symm hgq))
    replace HA := Lib.hid (HA.out.kept hg (Ne.symm hga))
    replace HT := Lib.hid (HT.out.grown hg (by simp))
    clear ht hg hHeld
    refine hK.out _ _ ?_
    clear hK K
    try simp only [Act.put, List.setIfInBounds_toArray, List.set_cons_zero, List.set_cons_succ]
    refine wpAnyW_done (by kernel_rfl) ?_ _
    refine NoPanic.normal ?_
    clear HM hD hD2
    go_wp2_with (first
    | (go_at_call 41; (with_reducible refine (hear_any _ v pr al g gq o cs0 hgq _ HP.out HQ.out).mono ?_); rintro e w1 ⟨rfl, h1, h2, h3⟩; replace HA := Lib.hid (HA.out.tw h3 (by simp; exact ⟨Ne.symm hga, Ne.symm hqa⟩)); replace HT := Lib.hid (HT.out.trans ⟨h3.os, h3.tape, h3.output, h3.size, fun k hk hn => h3.block k hk (fun hm => hn (by simp at hm ⊢; omega))⟩); replace HP := Lib.hid h1; replace HQ := Lib.hid h2; clear h1 h2 h3)
    | ((with_reducible refine gate9 ?_); refine stPf (xs' := cellsPa (⟨ad, 1, er, tm9, wn, no, be, 0⟩ : Pa)) 13 (.int .i64 0) rfl rfl rfl rfl HP.out (by show 13 < 14; decide) infoI rfl rfl ?_; intro w2 ht hg; replace HT := Lib.hid (HT.out.grown hg (by simp)); replace HQ := Lib.hid (HQ.out.kept hg (Ne.symm hgq)); replace HA := Lib.hid (HA.out.kept hg (Ne.symm hga)); replace HP := Lib.hid ht; clear ht hg; have c1 := HP.out.cell 1 (.int .i64 1) rfl)
    | ((with_reducible refine gate9 ?_); refine stPf (xs' := cellsPa (⟨ad, 2, er, tm9, wn, no, be, 0⟩ : Pa)) 1 (.int .i64 2) rfl rfl rfl rfl HP.out (by show 1 < 14; decide) infoI rfl rfl ?_; intro w2 ht hg; replace HT := Lib.hid (HT.out.grown hg (by simp)); replace HQ := Lib.hid (HQ.out.kept hg (Ne.symm hgq)); replace HA := Lib.hid (HA.out.kept hg (Ne.symm hga)); replace HP := Lib.hid ht; clear ht hg; clear c1))
    refine bodyPost_end (results_none rfl _ _ _) rfl ?_
    exact ⟨rfl, by rw [HF.out]; exact HP.out, HQ.out, HA.out, HT.out⟩
  · rw [show upSt st = st from if_neg h1] at HF
    go_enter Try.func38, Try.ntmps38
    go_wp2_with fail
    refine wp_region_noPanic ?_
    refine wp_region_waits (S := fun V => Pin g 47 cs0 o (cellsPa ⟨ad, st, er, tm, wn, no, be, se⟩) V ∧ Bx V gn 41 #[.int .u32 nonce] ∧ Bx V gw 3 #[.int .i64 now]) [] (by kernel_rfl) ⟨HP.out, HN.out, HW.out⟩ (fun hHeld => ?_)
    replace HQ : Hid (Bx w.drew gq 27 #[v, .int .i64 pr, .int .i64 al]) := Lib.hid HQ.out
    replace HA : Hid (Bx w.drew ga 4 #[.bool b0]) := Lib.hid HA.out
    replace HT := Lib.hid HT.out.drew
    clear HP HN HW
    refine wpAnyW_take (i := 0) (v := ?_) (by simp only [List.getElem?_toArray, List.getElem?_cons_zero]; rfl) (by kernel_rfl) (by kernel_rfl) (by kernel_rfl) (by kernel_rfl) (by kernel_rfl) (fun _ _ _ h => h) (Or.inl ⟨by rfl, ?_⟩) (by assumption) ?_
    rotate_left 1
    · (intro w' hSw; go_simp; try with_reducible rfl)
    try simp only [Act.put, List.setIfInBounds_toArray, List.set_cons_zero, List.set_cons_succ]
    refine wpAnyW_take (i := 1) (v := ?_) (by simp only [List.getElem?_toArray, List.getElem?_cons_succ, List.getElem?_cons_zero]; rfl) (by kernel_rfl) (by kernel_rfl) (by kernel_rfl) (by kernel_rfl) (by kernel_rfl) (fun _ _ _ h => h) (Or.inl ⟨by rfl, ?_⟩) (by assumption) ?_
    rotate_left 1
    · (intro w' hSw; go_simp; try with_reducible rfl)
    try simp only [Act.put, List.setIfInBounds_toArray, List.set_cons_zero, List.set_cons_succ]
    refine wpAnyW_take (i := 2) (v := _) (by simp only [List.getElem?_toArray, List.getElem?_cons_succ, List.getElem?_cons_zero]; rfl) (by kernel_rfl) (by kernel_rfl) (by kernel_rfl) (by kernel_rfl) (by kernel_rfl) (fun _ _ _ h => h) (yPp (by rfl) 0 (cellsPa ⟨ad, st, er, tm, wn, no, be, se⟩) rfl rfl (fun V h => h.1) (pa_part ⟨ad, st, er, tm, wn, no, be, se⟩) Try.underlying47 rfl infoPa) (by assumption) ?_
    try simp only [Act.put, List.setIfInBounds_toArray, List.set_cons_zero, List.set_cons_succ]
    refine wpAnyW_take (i := 3) (v := ?_) (by simp only [List.getElem?_toArray, List.getElem?_cons_succ, List.getElem?_cons_zero]; rfl) (by kernel_rfl) (by kernel_rfl) (by kernel_rfl) (by kernel_rfl) (by kernel_rfl) (fun _ _ _ h => h) (Or.inl ⟨by rfl, ?_⟩) (by assumption) ?_
    rotate_left 1
    · (intro w' hSw; have hq : w'.cell? ⟨gn, 0, none⟩ = some (.int .u32 nonce) := hSw.2.1.cell 0 _ rfl; go_simp; try with_reducible rfl)
    try simp only [Act.put, List.setIfInBounds_toArray, List.set_cons_zero, List.set_cons_succ]
    refine wpAnyW_take (i := 4) (v := ?_) (by simp only [List.getElem?_toArray, List.getElem?_cons_succ, List.getElem?_cons_zero]; rfl) (by kernel_rfl) (by kernel_rfl) (by kernel_rfl) (by kernel_rfl) (by kernel_rfl) (fun _ _ _ h => h) (Or.inl ⟨by rfl, ?_⟩) (by assumption) ?_
    rotate_left 1
    · (intro w' hSw; have hq : w'.cell? ⟨gw, 0, none⟩ = some (.int .i64 now) := hSw.2.2.cell 0 _ rfl; go_simp; try with_reducible rfl)
    try simp only [Act.put, List.setIfInBounds_toArray, List.set_cons_zero, List.set_cons_succ]
    refine wpAnyW_held (i := 5) (by kernel_rfl) (by simp only [List.getElem?_toArray, List.getElem?_cons_succ, List.getElem?_cons_zero]; rfl) (fun K hK => ?_)
    rw [if_pos (by rfl)]
    go_simp
    refine (HX.out _).mono ?_
    rintro _ w1 ⟨rfl, hb⟩
    have hS := And.intro (hHeld.1.later hb) (And.intro (hHeld.2.1.later hb) (hHeld.2.2.later hb))
    replace HQ := Lib.hid (HQ.out.later hb)
    replace HA := Lib.hid (HA.out.later hb)
    replace HT := Lib.hid (HT.out.below hb)
    clear hHeld hb
    go_wp2_with fail
    refine hK.out _ _ hS (fun hHeld => ?_)
    clear hK K hS
    try simp only [Act.put, List.setIfInBounds_toArray, List.set_cons_zero, List.set_cons_succ]
    refine wpAnyW_held (i := 6) (by kernel_rfl) (by simp only [List.getElem?_toArray, List.getElem?_cons_succ, List.getElem?_cons_zero]; rfl) (fun K hK => ?_)
    rw [if_pos (by rfl)]
    refine wpF (.bool true) rfl rfl rfl HA.out (by show 0 < 1; decide) infoB rfl ?_
    intro w2 ht hg he
    clear he
    have hS := And.intro (hHeld.1.kept hg hga) (And.intro (hHeld.2.1.kept hg hn3) (hHeld.2.2.kept hg hw3))
    replace HQ := Lib.hid (HQ.out.kept hg hqa)
    replace HA : Hid (Bx w2 ga 4 #[.bool true]) := Lib.hid ht
    replace HT := Lib.hid (HT.out.grown hg (by simp))
    clear ht hg hHeld
    refine hK.out _ _ hS (fun hHeld => ?_)
    clear hK K hS
    try simp only [Act.put, List.setIfInBounds_toArray, List.set_cons_zero, List.set_cons_succ]
    refine wpAnyW_done (by kernel_rfl) ?_ _
    refine NoPanic.normal ?_
    have HP := Lib.hid hHeld.1
    have HW := Lib.hid hHeld.2.2
    clear hHeld
    have ca := HA.out.cell 0 _ rfl
    clear HX
    go_wp2_with fail
    clear ca
    refine wp_region_noPanic ?_
    refine wp_region_waits (S := fun V => Pin g 47 cs0 o (cellsPa ⟨ad, st, er, tm, wn, no, be, se⟩) V ∧ Bx V gw 3 #[.int .i64 now]) [14] (by kernel_rfl) ⟨HP.out, HW.out⟩ (fun hHeld => ?_)
    replace HQ : Hid (Bx w2.drew gq 27 #[v, .int .i64 pr, .int .i64 al]) := Lib.hid HQ.out
    replace HA : Hid (Bx w2.drew ga 4 #[.bool true]) := Lib.hid HA.out
    replace HT := Lib.hid HT.out.drew
    clear HP HW
    refine wpAnyW_take (i := 0) (v := ?_) (by simp only [List.getElem?_toArray, List.getElem?_cons_zero]; rfl) (by kernel_rfl) (by kernel_rfl) (by kernel_rfl) (by kernel_rfl) (by kernel_rfl) (fun _ _ _ h => h) (Or.inl ⟨by rfl, ?_⟩) (by assumption) ?_
    rotate_left 1
    · (intro w' hSw; go_simp; try with_reducible rfl)
    try simp only [Act.put, List.setIfInBounds_toArray, List.set_cons_zero, List.set_cons_succ]
    refine wpAnyW_take (i := 1) (v := ?_) (by simp only [List.getElem?_toArray, List.getElem?_cons_succ, List.getElem?_cons_zero]; rfl) (by kernel_rfl) (by kernel_rfl) (by kernel_rfl) (by kernel_rfl) (by kernel_rfl) (fun _ _ _ h => h) (Or.inl ⟨by rfl, ?_⟩) (by assumption) ?_
    rotate_left 1
    · (intro w' hSw; go_simp; try with_reducible rfl)
    try simp only [Act.put, List.setIfInBounds_toArray, List.set_cons_zero, List.set_cons_succ]
    refine wpAnyW_take (i := 2) (v := ?_) (by simp only [List.getElem?_toArray, List.getElem?_cons_succ, List.getElem?_cons_zero]; rfl) (by kernel_rfl) (by kernel_rfl) (by kernel_rfl) (by kernel_rfl) (by kernel_rfl) (fun _ _ _ h => h) (Or.inl ⟨by rfl, ?_⟩) (by assumption) ?_
    rotate_left 1
    · (intro w' hSw; go_simp; try with_reducible rfl)
    try simp only [Act.put, List.setIfInBounds_toArray, List.set_cons_zero, List.set_cons_succ]
    refine wpAnyW_take (i := 3) (v := ?_) (by simp only [List.getElem?_toArray, List.getElem?_cons_succ, List.getElem?_cons_zero]; rfl) (by kernel_rfl) (by kernel_rfl) (by kernel_rfl) (by kernel_rfl) (by kernel_rfl) (fun _ _ _ h => h) (Or.inl ⟨by rfl, ?_⟩) (by assumption) ?_
    rotate_left 1
    · (intro w' hSw; go_simp; try with_reducible rfl)
    try simp only [Act.put, List.setIfInBounds_toArray, List.set_cons_zero, List.set_cons_succ]
    refine wpAnyW_take (i := 4) (v := _) (by simp only [List.getElem?_toArray, List.getElem?_cons_succ, List.getElem?_cons_zero]; rfl) (by kernel_rfl) (by kernel_rfl) (by kernel_rfl) (by kernel_rfl) (by kernel_rfl) (fun _ _ _ h => h) (yPp (by rfl) 3 (cellsT tm) rfl rfl (fun V h => h.1) (tm_part ⟨ad, st, er, tm, wn, no, be, se⟩) Try.underlying43 rfl infoTm) (by assumption) ?_
    try simp only [Act.put, List.setIfInBounds_toArray, List.set_cons_zero, List.set_cons_succ]
    refine wpAnyW_take (i := 5) (v := ?_) (by simp only [List.getElem?_toArray, List.getElem?_cons_succ, List.getElem?_cons_zero]; rfl) (by kernel_rfl) (by kernel_rfl) (by kernel_rfl) (by kernel_rfl) (by kernel_rfl) (fun _ _ _ h => h) (Or.inl ⟨by rfl, ?_⟩) (by assumption) ?_
    rotate_left 1
    · (intro w' hSw; have hq : w'.cell? ⟨gw, 0, none⟩ = some (.int .i64 now) := hSw.2.cell 0 _ rfl; go_simp; try with_reducible rfl)
    try simp only [Act.put, List.setIfInBounds_toArray, List.set_cons_zero, List.set_cons_succ]
    refine wpAnyW_take (i := 6) (v := ?_) (by simp only [List.getElem?_toArray, List.getElem?_cons_succ, List.getElem?_cons_zero]; rfl) (by kernel_rfl) (by kernel_rfl) (by kernel_rfl) (by kernel_rfl) (by kernel_rfl) (fun _ _ _ h => h) (Or.inl ⟨by rfl, ?_⟩) (by assumption) ?_
    rotate_left 1
    · (intro w' hSw; go_simp; try with_reducible rfl)
    try simp only [Act.put, List.setIfInBounds_toArray, List.set_cons_zero, List.set_cons_succ]
    refine wpAnyW_take (i := 7) (v := ?_) (by simp only [List.getElem?_toArray, List.getElem?_cons_succ, List.getElem?_cons_zero]; rfl) (by kernel_rfl) (by kernel_rfl) (by kernel_rfl) (by kernel_rfl) (by kernel_rfl) (fun _ _ _ h => h) (Or.inl ⟨by rfl, ?_⟩) (by assumption) ?_
    rotate_left 1
    · (intro w' hSw; go_simp; try with_reducible rfl)
    try simp only [Act.put, List.setIfInBounds_toArray, List.set_cons_zero, List.set_cons_succ]
    refine wpAnyW_take (i := 8) (v := ?_) (by simp only [List.getElem?_toArray, List.getElem?_cons_succ, List.getElem?_cons_zero]; rfl) (by kernel_rfl) (by kernel_rfl) (by kernel_rfl) (by kernel_rfl) (by kernel_rfl) (fun _ _ _ h => h) (Or.inl ⟨by rfl, ?_⟩) (by assumption) ?_
    rotate_left 1
    · (intro w' hSw; go_simp; try with_reducible rfl)
    try simp only [Act.put, List.setIfInBounds_toArray, List.set_cons_zero, List.set_cons_succ]
    refine wpAnyW_take (i := 9) (v := ?_) (by simp only [List.getElem?_toArray, List.getElem?_cons_succ, List.getElem?_cons_zero]; rfl) (by kernel_rfl) (by kernel_rfl) (by kernel_rfl) (by kernel_rfl) (by kernel_rfl) (fun _ _ _ h => h) (Or.inl ⟨by rfl, ?_⟩) (by assumption) ?_
    rotate_left 1
    · (intro w' hSw; have hq : w'.cell? ⟨g, o + 12, none⟩ = some (.int .i64 be) := hSw.1.cell 12 _ rfl; go_simp; try with_reducible rfl)
    try simp only [Act.put, List.setIfInBounds_toArray, List.set_cons_zero, List.set_cons_succ]
    refine wpAnyW_take (i := 10) (v := ?_) (by simp only [List.getElem?_toArray, List.getElem?_cons_succ, List.getElem?_cons_zero]; rfl) (by kernel_rfl) (by kernel_rfl) (by kernel_rfl) (by kernel_rfl) (by kernel_rfl) (fun _ _ _ h => h) (Or.inl ⟨by rfl, ?_⟩) (by assumption) ?_
    rotate_left 1
    · (intro w' hSw; go_simp; try with_reducible rfl)
    try simp only [Act.put, List.setIfInBounds_toArray, List.set_cons_zero, List.set_cons_succ]
    refine wpAnyW_held (i := 11) (by kernel_rfl) (by simp only [List.getElem?_toArray, List.getElem?_cons_succ, List.getElem?_cons_zero]; rfl) (fun K hK => ?_)
    rw [if_pos (by rfl)]
    go_simp
    refine (HM.out _).mono ?_
    rintro _ w1 ⟨rfl, hb⟩
    have hS := And.intro (hHeld.1.later hb) (hHeld.2.later hb)
    replace HQ := Lib.hid (HQ.out.later hb)
    replace HA := Lib.hid (HA.out.later hb)
    replace HT := Lib.hid (HT.out.below hb)
    clear hHeld hb
    go_wp2_with fail
    refine hK.out _ _ hS (fun hHeld => ?_)
    clear hK K hS
    try simp only [Act.put, List.setIfInBounds_toArray, List.set_cons_zero, List.set_cons_succ]
    refine wpAnyW_held (i := 12) (by kernel_rfl) (by simp only [List.getElem?_toArray, List.getElem?_cons_succ, List.getElem?_cons_zero]; rfl) (fun K hK => ?_)
    rw [if_pos (by rfl)]
    go_simp
    refine hK.out _ _ hHeld (fun hHeld => ?_)
    clear hK K
    try simp only [Act.put, List.setIfInBounds_toArray, List.set_cons_zero, List.set_cons_succ]
    refine wpAnyW_held (i := 13) (by kernel_rfl) (by simp only [List.getElem?_toArray, List.getElem?_cons_succ, List.getElem?_cons_zero]; rfl) (fun K hK => ?_)
    rw [if_pos (by rfl)]
    go_simp
    refine hK.out _ _ hHeld (fun hHeld => ?_)
    clear hK K
    try simp only [Act.put, List.setIfInBounds_toArray, List.set_cons_zero, List.set_cons_succ]
    refine wpAnyW_freed (i := 14) (by kernel_rfl) (by kernel_rfl) (by simp only [List.getElem?_toArray, List.getElem?_cons_succ, List.getElem?_cons_zero]; rfl) (fun K hK => ?_)
    rw [if_pos (by rfl)]
    refine wpPp (xs' := cellsPa (⟨ad, st, er, tm9, wn, no, be, se⟩ : Pa)) 3 (cellsT tm9) rfl rfl rfl hHeld.1 (by show 3 + 5 ≤ 14; decide) infoTm (cellsT_one _) rfl ?_
    intro w3 ht hg
    have HP := Lib.hid ht
    replace HQ := Lib.hid (HQ.out.kept hg (Ne.symm hgq))
    replace HA := Lib.hid (HA.out.kept hg (Ne.symm hga))
    replace HT := Lib.hid (HT.out.grown hg (by simp))
    clear ht hg hHeld
    refine hK.out _ _ ?_
    clear hK K
    try simp only [Act.put, List.setIfInBounds_toArray, List.set_cons_zero, List.set_cons_succ]
    refine wpAnyW_done (by kernel_rfl) ?_ _
    refine NoPanic.normal ?_
    clear HM hD hD2
    go_wp2_with (first
    | (go_at_call 41; (with_reducible refine (hear_any _ v pr al g gq o cs0 hgq _ HP.out HQ.out).mono ?_); rintro e w1 ⟨rfl, h1, h2, h3⟩; replace HA := Lib.hid (HA.out.tw h3 (by simp; exact ⟨Ne.symm hga, Ne.symm hqa⟩)); replace HT := Lib.hid (HT.out.trans ⟨h3.os, h3.tape, h3.output, h3.size, fun k hk hn => h3.block k hk (fun hm => hn (by simp at hm ⊢; omega))⟩); replace HP := Lib.hid h1; replace HQ := Lib.hid h2; clear h1 h2 h3)
    | ((with_reducible refine gate9 ?_); refine stPf (xs' := cellsPa (⟨ad, st, er, tm9, wn, no, be, 0⟩ : Pa)) 13 (.int .i64 0) rfl rfl rfl rfl HP.out (by show 13 < 14; decide) infoI rfl rfl ?_; intro w2 ht hg; replace HT := Lib.hid (HT.out.grown hg (by simp)); replace HQ := Lib.hid (HQ.out.kept hg (Ne.symm hgq)); replace HA := Lib.hid (HA.out.kept hg (Ne.symm hga)); replace HP := Lib.hid ht; clear ht hg; have c1 := HP.out.cell 1 (.int .i64 st) rfl)
    | ((with_reducible refine gate9 ?_); refine stPf (xs' := cellsPa (⟨ad, 2, er, tm9, wn, no, be, 0⟩ : Pa)) 1 (.int .i64 2) rfl rfl rfl rfl HP.out (by show 1 < 14; decide) infoI rfl rfl ?_; intro w2 ht hg; replace HT := Lib.hid (HT.out.grown hg (by simp)); replace HQ := Lib.hid (HQ.out.kept hg (Ne.symm hgq)); replace HA := Lib.hid (HA.out.kept hg (Ne.symm hga)); replace HP := Lib.hid ht; clear ht hg; clear c1))
    refine bodyPost_end (results_none rfl _ _ _) rfl ?_
    exact ⟨rfl, by rw [HF.out]; exact HP.out, HQ.out, HA.out, HT.out⟩
set_option maxHeartbeats 4000000 in
theorem fail_fn (x : Pa) (hwf : WfT x.tm) (v : Value) (pr al : Int) (b0 : Bool) (g ga gq o : Nat) (cs0 : Array Value) (hgq : g ≠ gq) (hga : g ≠ ga) (hqa : gq ≠ ga) (w : World) (hp : Pin g 47 cs0 o (cellsPa x) w) (ha : Bx w ga 4 #[.bool b0]) (hq : Bx w gq 27 #[v, .int .i64 pr, .int .i64 al]) :
    Calls Try.prog 45 #[.pointer (some ⟨g, o, none⟩), .pointer (some ⟨gq, 0, none⟩), .pointer (some ⟨ga, 0, none⟩)] w fun e w' => e = .returned (.tuple #[]) ∧ Pin g 47 cs0 o (cellsPa (failF x)) w' ∧ Bx w' gq 27 #[v, .int .i64 pr, .int .i64 (wrap64 (al + 1))] ∧ Bx w' ga 4 #[.bool (decide (10 < wrap64 (al + 1)))] ∧ Tw [g, gq, ga] w w' := by
  obtain ⟨ad, st, er, tm, wn, no, be, se⟩ := x
  have HK1 := Lib.hid (fun W => back_any tm hwf W)
  have HK2 := Lib.hid (fun W => Wi.timeout_any wn W)
  obtain ⟨E, hE⟩ : ∃ E, wrap64 (er + 1) = E := ⟨_, rfl⟩
  obtain ⟨M, hM⟩ : ∃ M, wrap64 (al + 1) = M := ⟨_, rfl⟩
  have HF := Lib.hid (show failF ⟨ad, st, er, tm, wn, no, be, se⟩ = ⟨ad, downSt E st, E, backT tm, Wi.restartedT (Wi.heldT wn), no, be, se⟩ by rw [← hE]; rfl)
  have hE2 : IntKind.i64.wrap (er + 1) = E := by rw [IntKind.wrap_i64, ← hE]; unfold wrap64; omega
  have hM2 : IntKind.i64.wrap (al + 1) = M := by rw [IntKind.wrap_i64, ← hM]; unfold wrap64; omega
  generalize failF ⟨ad, st, er, tm, wn, no, be, se⟩ = y at *
  generalize backT tm = tm9 at *
  generalize Wi.restartedT (Wi.heldT wn) = wn9 at *
  rw [hM]
  have HP : Hid (Pin g 47 cs0 o (cellsPa ⟨ad, st, er, tm, wn, no, be, se⟩) w) := Lib.hid hp
  have HA := Lib.hid ha
  have HQ := Lib.hid hq
  have HT := Lib.hid (Tw.refl [g, gq, ga] w)
  clear hp ha hq hwf
  by_cases h5 : 5 < E
  · by_cases h2 : st = 2
    · subst h2
      rw [show downSt E 2 = 3 from if_pos ⟨h5, rfl⟩] at HF
      have c2 := HP.out.cell 2 (.int .i64 er) rfl
      have cq := HQ.out.cell 2 (.int .i64 al) rfl
      go_enter Try.func45, Try.ntmps45
      go_wp2_with (first
    | ((with_reducible refine gate9 ?_); refine stPf (xs' := cellsPa (⟨ad, 2, E, tm, wn, no, be, se⟩ : Pa)) 2 (.int .i64 E) rfl rfl rfl rfl HP.out (by show 2 < 14; decide) infoI rfl rfl ?_; intro w2 ht hg; replace HT := Lib.hid (HT.out.grown hg (by simp)); replace HQ := Lib.hid (HQ.out.kept hg (Ne.symm hgq)); replace HA := Lib.hid (HA.out.kept hg (Ne.symm hga)); replace HP := Lib.hid ht; clear ht hg; clear c2 cq; have cq := HQ.out.cell 2 (.int .i64 al) rfl)
    | ((with_reducible refine gate9 ?_); refine stF (.int .i64 M) rfl rfl rfl rfl HQ.out (by show 2 < 3; decide) infoI rfl ?_; intro w2 ht hg; clear cq; replace HT := Lib.hid (HT.out.grown hg (by simp)); replace HP := Lib.hid (HP.out.kept hg hgq); replace HA := Lib.hid (HA.out.kept hg (Ne.symm hqa)); replace HQ : Hid (Bx w2 gq 27 #[v, .int .i64 pr, .int .i64 M]) := Lib.hid ht; clear ht hg))
      refine wp_region_noPanic ?_
      refine wp_region_waits (S := fun V => Pin g 47 cs0 o (cellsPa ⟨ad, 2, E, tm, wn, no, be, se⟩) V) [14, 17] (by kernel_rfl) HP.out (fun hHeld => ?_)
      replace HQ : Hid (Bx w2.drew gq 27 #[v, .int .i64 pr, .int .i64 M]) := Lib.hid HQ.out
      replace HA : Hid (Bx w2.drew ga 4 #[.bool b0]) := Lib.hid HA.out
      replace HT := Lib.hid HT.out.drew
      clear HP hE hE2 hM hM2
      refine wpAnyW_take (i := 0) (v := ?_) (by simp only [List.getElem?_toArray, List.getElem?_cons_zero]; rfl) (by kernel_rfl) (by kernel_rfl) (by kernel_rfl) (by kernel_rfl) (by kernel_rfl) (fun _ _ _ h => h) (Or.inl ⟨by rfl, ?_⟩) (by assumption) ?_
      rotate_left 1
      · (intro w' hSw; go_simp; try with_reducible rfl)
      try simp only [Act.put, List.setIfInBounds_toArray, List.set_cons_zero, List.set_cons_succ]
      refine wpAnyW_takeY (i := 1) (v := ?_) (by simp only [List.getElem?_toArray, List.getElem?_cons_succ, List.getElem?_cons_zero]; rfl) (by kernel_rfl) (by kernel_rfl) (by kernel_rfl) (by kernel_rfl) (fun _ _ _ h => h) (Or.inl ⟨by rfl, ?_⟩) (fun _ => by assumption) ?_
      rotate_left 1
      · (intro w' _; go_simp; try with_reducible rfl)
      try simp only [Act.put, List.setIfInBounds_toArray, List.set_cons_zero, List.set_cons_succ]
      refine wpAnyW_take (i := 2) (v := ?_) (by simp only [List.getElem?_toArray, List.getElem?_cons_succ, List.getElem?_cons_zero]; rfl) (by kernel_rfl) (by kernel_rfl) (by kernel_rfl) (by kernel_rfl) (by kernel_rfl) (fun _ _ _ h => h) (Or.inl ⟨by rfl, ?_⟩) (by assumption) ?_
      rotate_left 1
      · (intro w' hSw; go_simp; try with_reducible rfl)
      try simp only [Act.put, List.setIfInBounds_toArray, List.set_cons_zero, List.set_cons_succ]
      refine wpAnyW_take (i := 3) (v := ?_) (by simp only [List.getElem?_toArray, List.getElem?_cons_succ, List.getElem?_cons_zero]; rfl) (by kernel_rfl) (by kernel_rfl) (by kernel_rfl) (by kernel_rfl) (by kernel_rfl) (fun _ _ _ h => h) (Or.inl ⟨by rfl, ?_⟩) (by assumption) ?_
      rotate_left 1
      · (intro w' hSw; go_simp; try with_reducible rfl)
      try simp only [Act.put, List.setIfInBounds_toArray, List.set_cons_zero, List.set_cons_succ]
      refine wpAnyW_take (i := 4) (v := ?_) (by simp only [List.getElem?_toArray, List.getElem?_cons_succ, List.getElem?_cons_zero]; rfl) (by kernel_rfl) (by kernel_rfl) (by kernel_rfl) (by kernel_rfl) (by kernel_rfl) (fun _ _ _ h => h) (Or.inl ⟨by rfl, ?_⟩) (by assumption) ?_
      rotate_left 1
      · (intro w' hSw; go_simp; try with_reducible rfl)
      try simp only [Act.put, List.setIfInBounds_toArray, List.set_cons_zero, List.set_cons_succ]
      refine wpAnyW_take (i := 5) (v := _) (by simp only [List.getElem?_toArray, List.getElem?_cons_succ, List.getElem?_cons_zero]; rfl) (by kernel_rfl) (by kernel_rfl) (by kernel_rfl) (by kernel_rfl) (by kernel_rfl) (fun _ _ _ h => h) (yPp (by rfl) 3 (cellsT tm) rfl rfl (fun V h => h) (tm_part ⟨ad, 2, E, tm, wn, no, be, se⟩) Try.underlying43 rfl infoTm) (by assumption) ?_
      try simp only [Act.put, List.setIfInBounds_toArray, List.set_cons_zero, List.set_cons_succ]
      refine wpAnyW_takeY (i := 7) (v := ?_) (by simp only [List.getElem?_toArray, List.getElem?_cons_succ, List.getElem?_cons_zero]; rfl) (by kernel_rfl) (by kernel_rfl) (by kernel_rfl) (by kernel_rfl) (fun _ _ _ h => h) (Or.inl ⟨by rfl, ?_⟩) (fun _ => by assumption) ?_
      rotate_left 1
      · (intro w' _; go_simp; try with_reducible rfl)
      try simp only [Act.put, List.setIfInBounds_toArray, List.set_cons_zero, List.set_cons_succ]
      refine wpAnyW_takeY (i := 8) (v := ?_) (by simp only [List.getElem?_toArray, List.getElem?_cons_succ, List.getElem?_cons_zero]; rfl) (by kernel_rfl) (by kernel_rfl) (by kernel_rfl) (by kernel_rfl) (fun _ _ _ h => h) (Or.inl ⟨by rfl, ?_⟩) (fun _ => by assumption) ?_
      rotate_left 1
      · (intro w' _; go_simp; try with_reducible rfl)
      try simp only [Act.put, List.setIfInBounds_toArray, List.set_cons_zero, List.set_cons_succ]
      refine wpAnyW_takeY (i := 9) (v := ?_) (by simp only [List.getElem?_toArray, List.getElem?_cons_succ, List.getElem?_cons_zero]; rfl) (by kernel_rfl) (by kernel_rfl) (by kernel_rfl) (by kernel_rfl) (fun _ _ _ h => h) (Or.inl ⟨by rfl, ?_⟩) (fun _ => by assumption) ?_
      rotate_left 1
      · (intro w' _; go_simp; try with_reducible rfl)
      try simp only [Act.put, List.setIfInBounds_toArray, List.set_cons_zero, List.set_cons_succ]
      refine wpAnyW_take (i := 10) (v := _) (by simp only [List.getElem?_toArray, List.getElem?_cons_succ, List.getElem?_cons_zero]; rfl) (by kernel_rfl) (by kernel_rfl) (by kernel_rfl) (by kernel_rfl) (by kernel_rfl) (fun _ _ _ h => h) (yPp (by rfl) 8 (Wi.cellsT wn) rfl rfl (fun V h => h) (wn_part ⟨ad, 2, E, tm, wn, no, be, se⟩) Try.underlying45 rfl infoWn) (by assumption) ?_
      try simp only [Act.put, List.setIfInBounds_toArray, List.set_cons_zero, List.set_cons_succ]
      refine wpAnyW_held (i := 6) (by kernel_rfl) (by simp only [List.getElem?_toArray, List.getElem?_cons_succ, List.getElem?_cons_zero]; rfl) (fun K hK => ?_)
      rw [if_pos (by rfl)]
      go_simp
      refine (HK1.out _).mono ?_
      rintro _ w1 ⟨rfl, hb⟩
      have hS := hHeld.later hb
      replace HQ := Lib.hid (HQ.out.later hb)
      replace HA := Lib.hid (HA.out.later hb)
      replace HT := Lib.hid (HT.out.below hb)
      clear hHeld hb
      go_wp2_with fail
      refine hK.out _ _ hS (fun hHeld => ?_)
      clear hK K hS
      try simp only [Act.put, List.setIfInBounds_toArray, List.set_cons_zero, List.set_cons_succ]
      refine wpAnyW_held (i := 11) (by kernel_rfl) (by simp only [List.getElem?_toArray, List.getElem?_cons_succ, List.getElem?_cons_zero]; rfl) (fun K hK => ?_)
      rw [if_pos (by rfl)]
      go_simp
      refine (HK2.out _).mono ?_
      rintro _ w1 ⟨rfl, hb⟩
      have hS := hHeld.later hb
      replace HQ := Lib.hid (HQ.out.later hb)
      replace HA := Lib.hid (HA.out.later hb)
      replace HT := Lib.hid (HT.out.below hb)
      clear hHeld hb
      go_wp2_with fail
      refine hK.out _ _ hS (fun hHeld => ?_)
      clear hK K hS
      try simp only [Act.put, List.setIfInBounds_toArray, List.set_cons_zero, List.set_cons_succ]
      refine wpAnyW_held (i := 12) (by kernel_rfl) (by simp only [List.getElem?_toArray, List.getElem?_cons_succ, List.getElem?_cons_zero]; rfl) (fun K hK => ?_)
      rw [if_pos (by rfl)]
      go_simp
      refine hK.out _ _ hHeld (fun hHeld => ?_)
      clear hK K
      try simp only [Act.put, List.setIfInBounds_toArray, List.set_cons_zero, List.set_cons_succ]
      refine wpAnyW_held (i := 13) (by kernel_rfl) (by simp only [List.getElem?_toArray, List.getElem?_cons_succ, List.getElem?_cons_zero]; rfl) (fun K hK => ?_)
      rw [if_pos (by rfl)]
      go_simp
      refine hK.out _ _ hHeld (fun hHeld => ?_)
      clear hK K
      try simp only [Act.put, List.setIfInBounds_toArray, List.set_cons_zero, List.set_cons_succ]
      refine wpAnyW_freed (i := 14) (by kernel_rfl) (by kernel_rfl) (by simp only [List.getElem?_toArray, List.getElem?_cons_succ, List.getElem?_cons_zero]; rfl) (fun K hK => ?_)
      rw [if_pos (by rfl)]
      refine wpPp (xs' := cellsPa (⟨ad, 2, E, tm9, wn, no, be, se⟩ : Pa)) 3 (cellsT tm9) rfl rfl rfl hHeld (by show 3 + 5 ≤ 14; decide) infoTm (cellsT_one _) rfl ?_
      intro w3 ht hg
      have HP := Lib.hid ht
      replace HQ := Lib.hid (HQ.out.kept hg (Ne.symm hgq))
      replace HA := Lib.hid (HA.out.kept hg (Ne.symm hga))
      replace HT := Lib.hid (HT.out.grown hg (by simp))
      clear ht hg
      refine hK.out _ _ ?_
      clear hK K
      try simp only [Act.put, List.setIfInBounds_toArray, List.set_cons_zero, List.set_cons_succ]
      refine wpAnyW_freed (i := 15) (by kernel_rfl) (by kernel_rfl) (by simp only [List.getElem?_toArray, List.getElem?_cons_succ, List.getElem?_cons_zero]; rfl) (fun K hK => ?_)
      rw [if_pos (by rfl)]
      go_simp
      refine hK.out _ _ ?_
      clear hK K
      try simp only [Act.put, List.setIfInBounds_toArray, List.set_cons_zero, List.set_cons_succ]
      refine wpAnyW_freed (i := 16) (by kernel_rfl) (by kernel_rfl) (by simp only [List.getElem?_toArray, List.getElem?_cons_succ, List.getElem?_cons_zero]; rfl) (fun K hK => ?_)
      rw [if_pos (by rfl)]
      go_simp
      refine hK.out _ _ ?_
      clear hK K
      try simp only [Act.put, List.setIfInBounds_toArray, List.set_cons_zero, List.set_cons_succ]
      refine wpAnyW_freed (i := 17) (by kernel_rfl) (by kernel_rfl) (by simp only [List.getElem?_toArray, List.getElem?_cons_succ, List.getElem?_cons_zero]; rfl) (fun K hK => ?_)
      rw [if_pos (by rfl)]
      refine wpPp (xs' := cellsPa (⟨ad, 2, E, tm9, wn9, no, be, se⟩ : Pa)) 8 (Wi.cellsT wn9) rfl rfl rfl HP.out (by show 8 + 3 ≤ 14; decide) infoWn (Wi.cellsT_one _) rfl ?_
      intro w3 ht hg
      have HP := Lib.hid ht
      replace HQ := Lib.hid (HQ.out.kept hg (Ne.symm hgq))
      replace HA := Lib.hid (HA.out.kept hg (Ne.symm hga))
      replace HT := Lib.hid (HT.out.grown hg (by simp))
      clear ht hg
      refine hK.out _ _ ?_
      clear hK K
      try simp only [Act.put, List.setIfInBounds_toArray, List.set_cons_zero, List.set_cons_succ]
      refine wpAnyW_done (by kernel_rfl) ?_ _
      refine NoPanic.normal ?_
      clear HK1 HK2 hHeld
      have c2 := HP.out.cell 2 (.int .i64 E) rfl
      have c1 := HP.out.cell 1 (.int .i64 2) rfl
      have cq := HQ.out.cell 2 (.int .i64 M) rfl
      go_wp2_with (first
    | ((with_reducible refine gate9 ?_); refine stPf (xs' := cellsPa (⟨ad, 3, E, tm9, wn9, no, be, se⟩ : Pa)) 1 (.int .i64 3) rfl rfl rfl rfl HP.out (by show 1 < 14; decide) infoI rfl rfl ?_; intro w2 ht hg; replace HT := Lib.hid (HT.out.grown hg (by simp)); replace HQ := Lib.hid (HQ.out.kept hg (Ne.symm hgq)); replace HA := Lib.hid (HA.out.kept hg (Ne.symm hga)); replace HP := Lib.hid ht; clear ht hg; clear c1 c2 cq; have cq := HQ.out.cell 2 (.int .i64 M) rfl)
    | ((with_reducible refine gate9 ?_); refine stF (.bool (decide (10 < M))) rfl rfl rfl rfl HA.out (by show 0 < 1; decide) infoB rfl ?_; intro w2 ht hg; clear cq; replace HT := Lib.hid (HT.out.grown hg (by simp)); replace HP := Lib.hid (HP.out.kept hg hga); replace HQ := Lib.hid (HQ.out.kept hg hqa); replace HA : Hid (Bx w2 ga 4 #[.bool (decide (10 < M))]) := Lib.hid ht; clear ht hg))
      refine bodyPost_end (results_none rfl _ _ _) rfl ?_
      exact ⟨rfl, by rw [HF.out]; exact HP.out, HQ.out, HA.out, HT.out⟩
    · rw [show downSt E st = st from if_neg (fun h => h2 h.2)] at HF
      have c2 := HP.out.cell 2 (.int .i64 er) rfl
      have cq := HQ.out.cell 2 (.int .i64 al) rfl
      go_enter Try.func45, Try.ntmps45
      go_wp2_with (first
    | ((with_reducible refine gate9 ?_); refine stPf (xs' := cellsPa (⟨ad, st, E, tm, wn, no, be, se⟩ : Pa)) 2 (.int .i64 E) rfl rfl rfl rfl HP.out (by show 2 < 14; decide) infoI rfl rfl ?_; intro w2 ht hg; replace HT := Lib.hid (HT.out.grown hg (by simp)); replace HQ := Lib.hid (HQ.out.kept hg (Ne.symm hgq)); replace HA := Lib.hid (HA.out.kept hg (Ne.symm hga)); replace HP := Lib.hid ht; clear ht hg; clear c2 cq; have cq := HQ.out.cell 2 (.int .i64 al) rfl)
    | ((with_reducible refine gate9 ?_); refine stF (.int .i64 M) rfl rfl rfl rfl HQ.out (by show 2 < 3; decide) infoI rfl ?_; intro w2 ht hg; clear cq; replace HT := Lib.hid (HT.out.grown hg (by simp)); replace HP := Lib.hid (HP.out.kept hg hgq); replace HA := Lib.hid (HA.out.kept hg (Ne.symm hqa)); replace HQ : Hid (Bx w2 gq 27 #[v, .int .i64 pr, .int .i64 M]) := Lib.hid ht; clear ht hg))
      refine wp_region_noPanic ?_
      refine wp_region_waits (S := fun V => Pin g 47 cs0 o (cellsPa ⟨ad, st, E, tm, wn, no, be, se⟩) V) [14, 17] (by kernel_rfl) HP.out (fun hHeld => ?_)
      replace HQ : Hid (Bx w2.drew gq 27 #[v, .int .i64 pr, .int .i64 M]) := Lib.hid HQ.out
      replace HA : Hid (Bx w2.drew ga 4 #[.bool b0]) := Lib.hid HA.out
      replace HT := Lib.hid HT.out.drew
      clear HP hE hE2 hM hM2
      refine wpAnyW_take (i := 0) (v := ?_) (by simp only [List.getElem?_toArray, List.getElem?_cons_zero]; rfl) (by kernel_rfl) (by kernel_rfl) (by kernel_rfl) (by kernel_rfl) (by kernel_rfl) (fun _ _ _ h => h) (Or.inl ⟨by rfl, ?_⟩) (by assumption) ?_
      rotate_left 1
      · (intro w' hSw; go_simp; try with_reducible rfl)
      try simp only [Act.put, List.setIfInBounds_toArray, List.set_cons_zero, List.set_cons_succ]
      refine wpAnyW_takeY (i := 1) (v := ?_) (by simp only [List.getElem?_toArray, List.getElem?_cons_succ, List.getElem?_cons_zero]; rfl) (by kernel_rfl) (by kernel_rfl) (by kernel_rfl) (by kernel_rfl) (fun _ _ _ h => h) (Or.inl ⟨by rfl, ?_⟩) (fun _ => by assumption) ?_
      rotate_left 1
      · (intro w' _; go_simp; try with_reducible rfl)
      try simp only [Act.put, List.setIfInBounds_toArray, List.set_cons_zero, List.set_cons_succ]
      refine wpAnyW_take (i := 2) (v := ?_) (by simp only [List.getElem?_toArray, List.getElem?_cons_succ, List.getElem?_cons_zero]; rfl) (by kernel_rfl) (by kernel_rfl) (by kernel_rfl) (by kernel_rfl) (by kernel_rfl) (fun _ _ _ h => h) (Or.inl ⟨by rfl, ?_⟩) (by assumption) ?_
      rotate_left 1
      · (intro w' hSw; go_simp; try with_reducible rfl)
      try simp only [Act.put, List.setIfInBounds_toArray, List.set_cons_zero, List.set_cons_succ]
      refine wpAnyW_take (i := 3) (v := ?_) (by simp only [List.getElem?_toArray, List.getElem?_cons_succ, List.getElem?_cons_zero]; rfl) (by kernel_rfl) (by kernel_rfl) (by kernel_rfl) (by kernel_rfl) (by kernel_rfl) (fun _ _ _ h => h) (Or.inl ⟨by rfl, ?_⟩) (by assumption) ?_
      rotate_left 1
      · (intro w' hSw; go_simp; try with_reducible rfl)
      try simp only [Act.put, List.setIfInBounds_toArray, List.set_cons_zero, List.set_cons_succ]
      refine wpAnyW_take (i := 4) (v := ?_) (by simp only [List.getElem?_toArray, List.getElem?_cons_succ, List.getElem?_cons_zero]; rfl) (by kernel_rfl) (by kernel_rfl) (by kernel_rfl) (by kernel_rfl) (by kernel_rfl) (fun _ _ _ h => h) (Or.inl ⟨by rfl, ?_⟩) (by assumption) ?_
      rotate_left 1
      · (intro w' hSw; go_simp; try with_reducible rfl)
      try simp only [Act.put, List.setIfInBounds_toArray, List.set_cons_zero, List.set_cons_succ]
      refine wpAnyW_take (i := 5) (v := _) (by simp only [List.getElem?_toArray, List.getElem?_cons_succ, List.getElem?_cons_zero]; rfl) (by kernel_rfl) (by kernel_rfl) (by kernel_rfl) (by kernel_rfl) (by kernel_rfl) (fun _ _ _ h => h) (yPp (by rfl) 3 (cellsT tm) rfl rfl (fun V h => h) (tm_part ⟨ad, st, E, tm, wn, no, be, se⟩) Try.underlying43 rfl infoTm) (by assumption) ?_
      try simp only [Act.put, List.setIfInBounds_toArray, List.set_cons_zero, List.set_cons_succ]
      refine wpAnyW_takeY (i := 7) (v := ?_) (by simp only [List.getElem?_toArray, List.getElem?_cons_succ, List.getElem?_cons_zero]; rfl) (by kernel_rfl) (by kernel_rfl) (by kernel_rfl) (by kernel_rfl) (fun _ _ _ h => h) (Or.inl ⟨by rfl, ?_⟩) (fun _ => by assumption) ?_
      rotate_left 1
      · (intro w' _; go_simp; try with_reducible rfl)
      try simp only [Act.put, List.setIfInBounds_toArray, List.set_cons_zero, List.set_cons_succ]
      refine wpAnyW_takeY (i := 8) (v := ?_) (by simp only [List.getElem?_toArray, List.getElem?_cons_succ, List.getElem?_cons_zero]; rfl) (by kernel_rfl) (by kernel_rfl) (by kernel_rfl) (by kernel_rfl) (fun _ _ _ h => h) (Or.inl ⟨by rfl, ?_⟩) (fun _ => by assumption) ?_
      rotate_left 1
      · (intro w' _; go_simp; try with_reducible rfl)
      try simp only [Act.put, List.setIfInBounds_toArray, List.set_cons_zero, List.set_cons_succ]
      refine wpAnyW_takeY (i := 9) (v := ?_) (by simp only [List.getElem?_toArray, List.getElem?_cons_succ, List.getElem?_cons_zero]; rfl) (by kernel_rfl) (by kernel_rfl) (by kernel_rfl) (by kernel_rfl) (fun _ _ _ h => h) (Or.inl ⟨by rfl, ?_⟩) (fun _ => by assumption) ?_
      rotate_left 1
      · (intro w' _; go_simp; try with_reducible rfl)
      try simp only [Act.put, List.setIfInBounds_toArray, List.set_cons_zero, List.set_cons_succ]
      refine wpAnyW_take (i := 10) (v := _) (by simp only [List.getElem?_toArray, List.getElem?_cons_succ, List.getElem?_cons_zero]; rfl) (by kernel_rfl) (by kernel_rfl) (by kernel_rfl) (by kernel_rfl) (by kernel_rfl) (fun _ _ _ h => h) (yPp (by rfl) 8 (Wi.cellsT wn) rfl rfl (fun V h => h) (wn_part ⟨ad, st, E, tm, wn, no, be, se⟩) Try.underlying45 rfl infoWn) (by assumption) ?_
      try simp only [Act.put, List.setIfInBounds_toArray, List.set_cons_zero, List.set_cons_succ]
      refine wpAnyW_held (i := 6) (by kernel_rfl) (by simp only [List.getElem?_toArray, List.getElem?_cons_succ, List.getElem?_cons_zero]; rfl) (fun K hK => ?_)
      rw [if_pos (by rfl)]
      go_simp
      refine (HK1.out _).mono ?_
      rintro _ w1 ⟨rfl, hb⟩
      have hS := hHeld.later hb
      replace HQ := Lib.hid (HQ.out.later hb)
      replace HA := Lib.hid (HA.out.later hb)
      replace HT := Lib.hid (HT.out.below hb)
      clear hHeld hb
      go_wp2_with fail
      refine hK.out _ _ hS (fun hHeld => ?_)
      clear hK K hS
      try simp only [Act.put, List.setIfInBounds_toArray, List.set_cons_zero, List.set_cons_succ]
      refine wpAnyW_held (i := 11) (by kernel_rfl) (by simp only [List.getElem?_toArray, List.getElem?_cons_succ, List.getElem?_cons_zero]; rfl) (fun K hK => ?_)
      rw [if_pos (by rfl)]
      go_simp
      refine (HK2.out _).mono ?_
      rintro _ w1 ⟨rfl, hb⟩
      have hS := hHeld.later hb
      replace HQ := Lib.hid (HQ.out.later hb)
      replace HA := Lib.hid (HA.out.later hb)
      replace HT := Lib.hid (HT.out.below hb)
      clear hHeld hb
      go_wp2_with fail
      refine hK.out _ _ hS (fun hHeld => ?_)
      clear hK K hS
      try simp only [Act.put, List.setIfInBounds_toArray, List.set_cons_zero, List.set_cons_succ]
      refine wpAnyW_held (i := 12) (by kernel_rfl) (by simp only [List.getElem?_toArray, List.getElem?_cons_succ, List.getElem?_cons_zero]; rfl) (fun K hK => ?_)
      rw [if_pos (by rfl)]
      go_simp
      refine hK.out _ _ hHeld (fun hHeld => ?_)
      clear hK K
      try simp only [Act.put, List.setIfInBounds_toArray, List.set_cons_zero, List.set_cons_succ]
      refine wpAnyW_held (i := 13) (by kernel_rfl) (by simp only [List.getElem?_toArray, List.getElem?_cons_succ, List.getElem?_cons_zero]; rfl) (fun K hK => ?_)
      rw [if_pos (by rfl)]
      go_simp
      refine hK.out _ _ hHeld (fun hHeld => ?_)
      clear hK K
      try simp only [Act.put, List.setIfInBounds_toArray, List.set_cons_zero, List.set_cons_succ]
      refine wpAnyW_freed (i := 14) (by kernel_rfl) (by kernel_rfl) (by simp only [List.getElem?_toArray, List.getElem?_cons_succ, List.getElem?_cons_zero]; rfl) (fun K hK => ?_)
      rw [if_pos (by rfl)]
      refine wpPp (xs' := cellsPa (⟨ad, st, E, tm9, wn, no, be, se⟩ : Pa)) 3 (cellsT tm9) rfl rfl rfl hHeld (by show 3 + 5 ≤ 14; decide) infoTm (cellsT_one _) rfl ?_
      intro w3 ht hg
      have HP := Lib.hid ht
      replace HQ := Lib.hid (HQ.out.kept hg (Ne.symm hgq))
      replace HA := Lib.hid (HA.out.kept hg (Ne.symm hga))
      replace HT := Lib.hid (HT.out.grown hg (by simp))
      clear ht hg
      refine hK.out _ _ ?_
      clear hK K
      try simp only [Act.put, List.setIfInBounds_toArray, List.set_cons_zero, List.set_cons_succ]
      refine wpAnyW_freed (i := 15) (by kernel_rfl) (by kernel_rfl) (by simp only [List.getElem?_toArray, List.getElem?_cons_succ, List.getElem?_cons_zero]; rfl) (fun K hK => ?_)
      rw [if_pos (by rfl)]
      go_simp
      refine hK.out _ _ ?_
      clear hK K
      try simp only [Act.put, List.setIfInBounds_toArray, List.set_cons_zero, List.set_cons_succ]
      refine wpAnyW_freed (i := 16) (by kernel_rfl) (by kernel_rfl) (by simp only [List.getElem?_toArray, List.getElem?_cons_succ, List.getElem?_cons_zero]; rfl) (fun K hK => ?_)
      rw [if_pos (by rfl)]
      go_simp
      refine hK.out _ _ ?_
      clear hK K
      try simp only [Act.put, List.setIfInBounds_toArray, List.set_cons_zero, List.set_cons_succ]
      refine wpAnyW_freed (i := 17) (by kernel_rfl) (by kernel_rfl) (by simp only [List.getElem?_toArray, List.getElem?_cons_succ, List.getElem?_cons_zero]; rfl) (fun K hK => ?_)
      rw [if_pos (by rfl)]
      refine wpPp (xs' := cellsPa (⟨ad, st, E, tm9, wn9, no, be, se⟩ : Pa)) 8 (Wi.cellsT wn9) rfl rfl rfl HP.out (by show 8 + 3 ≤ 14; decide) infoWn (Wi.cellsT_one _) rfl ?_
      intro w3 ht hg
      have HP := Lib.hid ht
      replace HQ := Lib.hid (HQ.out.kept hg (Ne.symm hgq))
      replace HA := Lib.hid (HA.out.kept hg (Ne.symm hga))
      replace HT := Lib.hid (HT.out.grown hg (by simp))
      clear ht hg
      refine hK.out _ _ ?_
      clear hK K
      try simp only [Act.put, List.setIfInBounds_toArray, List.set_cons_zero, List.set_cons_succ]
      refine wpAnyW_done (by kernel_rfl) ?_ _
      refine NoPanic.normal ?_
      clear HK1 HK2 hHeld
      have c2 := HP.out.cell 2 (.int .i64 E) rfl
      have c1 := HP.out.cell 1 (.int .i64 st) rfl
      have cq := HQ.out.cell 2 (.int .i64 M) rfl
      go_wp2_with (first
    | ((with_reducible refine gate9 ?_); refine stPf (xs' := cellsPa (⟨ad, st, E, tm9, wn9, no, be, se⟩ : Pa)) 1 (.int .i64 3) rfl rfl rfl rfl HP.out (by show 1 < 14; decide) infoI rfl rfl ?_; intro w2 ht hg; replace HT := Lib.hid (HT.out.grown hg (by simp)); replace HQ := Lib.hid (HQ.out.kept hg (Ne.symm hgq)); replace HA := Lib.hid (HA.out.kept hg (Ne.symm hga)); replace HP := Lib.hid ht; clear ht hg; clear c1 c2 cq; have cq := HQ.out.cell 2 (.int .i64 M) rfl)
    | ((with_reducible refine gate9 ?_); refine stF (.bool (decide (10 < M))) rfl rfl rfl rfl HA.out (by show 0 < 1; decide) infoB rfl ?_; intro w2 ht hg; clear cq; replace HT := Lib.hid (HT.out.grown hg (by simp)); replace HP := Lib.hid (HP.out.kept hg hga); replace HQ := Lib.hid (HQ.out.kept hg hqa); replace HA : Hid (Bx w2 ga 4 #[.bool (decide (10 < M))]) := Lib.hid ht; clear ht hg))
      refine bodyPost_end (results_none rfl _ _ _) rfl ?_
      exact ⟨rfl, by rw [HF.out]; exact HP.out, HQ.out, HA.out, HT.out⟩
  · rw [show downSt E st = st from if_neg (fun h => h5 h.1)] at HF
    have c2 := HP.out.cell 2 (.int .i64 er) rfl
    have cq := HQ.out.cell 2 (.int .i64 al) rfl
    go_enter Try.func45, Try.ntmps45
    go_wp2_with (first
    | ((with_reducible refine gate9 ?_); refine stPf (xs' := cellsPa (⟨ad, st, E, tm, wn, no, be, se⟩ : Pa)) 2 (.int .i64 E) rfl rfl rfl rfl HP.out (by show 2 < 14; decide) infoI rfl rfl ?_; intro w2 ht hg; replace HT := Lib.hid (HT.out.grown hg (by simp)); replace HQ := Lib.hid (HQ.out.kept hg (Ne.symm hgq)); replace HA := Lib.hid (HA.out.kept hg (Ne.symm hga)); replace HP := Lib.hid ht; clear ht hg; clear c2 cq; have cq := HQ.out.cell 2 (.int .i64 al) rfl)
    | ((with_reducible refine gate9 ?_); refine stF (.int .i64 M) rfl rfl rfl rfl HQ.out (by show 2 < 3; decide) infoI rfl ?_; intro w2 ht hg; clear cq; replace HT := Lib.hid (HT.out.grown hg (by simp)); replace HP := Lib.hid (HP.out.kept hg hgq); replace HA := Lib.hid (HA.out.kept hg (Ne.symm hqa)); replace HQ : Hid (Bx w2 gq 27 #[v, .int .i64 pr, .int .i64 M]) := Lib.hid ht; clear ht hg))
    refine wp_region_noPanic ?_
    refine wp_region_waits (S := fun V => Pin g 47 cs0 o (cellsPa ⟨ad, st, E, tm, wn, no, be, se⟩) V) [14, 17] (by kernel_rfl) HP.out (fun hHeld => ?_)
    replace HQ : Hid (Bx w2.drew gq 27 #[v, .int .i64 pr, .int .i64 M]) := Lib.hid HQ.out
    replace HA : Hid (Bx w2.drew ga 4 #[.bool b0]) := Lib.hid HA.out
    replace HT := Lib.hid HT.out.drew
    clear HP hE hE2 hM hM2
    refine wpAnyW_take (i := 0) (v := ?_) (by simp only [List.getElem?_toArray, List.getElem?_cons_zero]; rfl) (by kernel_rfl) (by kernel_rfl) (by kernel_rfl) (by kernel_rfl) (by kernel_rfl) (fun _ _ _ h => h) (Or.inl ⟨by rfl, ?_⟩) (by assumption) ?_
    rotate_left 1
    · (intro w' hSw; go_simp; try with_reducible rfl)
    try simp only [Act.put, List.setIfInBounds_toArray, List.set_cons_zero, List.set_cons_succ]
    refine wpAnyW_takeY (i := 1) (v := ?_) (by simp only [List.getElem?_toArray, List.getElem?_cons_succ, List.getElem?_cons_zero]; rfl) (by kernel_rfl) (by kernel_rfl) (by kernel_rfl) (by kernel_rfl) (fun _ _ _ h => h) (Or.inl ⟨by rfl, ?_⟩) (fun _ => by assumption) ?_
    rotate_left 1
    · (intro w' _; go_simp; try with_reducible rfl)
    try simp only [Act.put, List.setIfInBounds_toArray, List.set_cons_zero, List.set_cons_succ]
    refine wpAnyW_take (i := 2) (v := ?_) (by simp only [List.getElem?_toArray, List.getElem?_cons_succ, List.getElem?_cons_zero]; rfl) (by kernel_rfl) (by kernel_rfl) (by kernel_rfl) (by kernel_rfl) (by kernel_rfl) (fun _ _ _ h => h) (Or.inl ⟨by rfl, ?_⟩) (by assumption) ?_
    rotate_left 1
    · (intro w' hSw; go_simp; try with_reducible rfl)
    try simp only [Act.put, List.setIfInBounds_toArray, List.set_cons_zero, List.set_cons_succ]
    refine wpAnyW_take (i := 3) (v := ?_) (by simp only [List.getElem?_toArray, List.getElem?_cons_succ, List.getElem?_cons_zero]; rfl) (by kernel_rfl) (by kernel_rfl) (by kernel_rfl) (by kernel_rfl) (by kernel_rfl) (fun _ _ _ h => h) (Or.inl ⟨by rfl, ?_⟩) (by assumption) ?_
    rotate_left 1
    · (intro w' hSw; go_simp; try with_reducible rfl)
    try simp only [Act.put, List.setIfInBounds_toArray, List.set_cons_zero, List.set_cons_succ]
    refine wpAnyW_take (i := 4) (v := ?_) (by simp only [List.getElem?_toArray, List.getElem?_cons_succ, List.getElem?_cons_zero]; rfl) (by kernel_rfl) (by kernel_rfl) (by kernel_rfl) (by kernel_rfl) (by kernel_rfl) (fun _ _ _ h => h) (Or.inl ⟨by rfl, ?_⟩) (by assumption) ?_
    rotate_left 1
    · (intro w' hSw; go_simp; try with_reducible rfl)
    try simp only [Act.put, List.setIfInBounds_toArray, List.set_cons_zero, List.set_cons_succ]
    refine wpAnyW_take (i := 5) (v := _) (by simp only [List.getElem?_toArray, List.getElem?_cons_succ, List.getElem?_cons_zero]; rfl) (by kernel_rfl) (by kernel_rfl) (by kernel_rfl) (by kernel_rfl) (by kernel_rfl) (fun _ _ _ h => h) (yPp (by rfl) 3 (cellsT tm) rfl rfl (fun V h => h) (tm_part ⟨ad, st, E, tm, wn, no, be, se⟩) Try.underlying43 rfl infoTm) (by assumption) ?_
    try simp only [Act.put, List.setIfInBounds_toArray, List.set_cons_zero, List.set_cons_succ]
    refine wpAnyW_takeY (i := 7) (v := ?_) (by simp only [List.getElem?_toArray, List.getElem?_cons_succ, List.getElem?_cons_zero]; rfl) (by kernel_rfl) (by kernel_rfl) (by kernel_rfl) (by kernel_rfl) (fun _ _ _ h => h) (Or.inl ⟨by rfl, ?_⟩) (fun _ => by assumption) ?_
    rotate_left 1
    · (intro w' _; go_simp; try with_reducible rfl)
    try simp only [Act.put, List.setIfInBounds_toArray, List.set_cons_zero, List.set_cons_succ]
    refine wpAnyW_takeY (i := 8) (v := ?_) (by simp only [List.getElem?_toArray, List.getElem?_cons_succ, List.getElem?_cons_zero]; rfl) (by kernel_rfl) (by kernel_rfl) (by kernel_rfl) (by kernel_rfl) (fun _ _ _ h => h) (Or.inl ⟨by rfl, ?_⟩) (fun _ => by assumption) ?_
    rotate_left 1
    · (intro w' _; go_simp; try with_reducible rfl)
    try simp only [Act.put, List.setIfInBounds_toArray, List.set_cons_zero, List.set_cons_succ]
    refine wpAnyW_takeY (i := 9) (v := ?_) (by simp only [List.getElem?_toArray, List.getElem?_cons_succ, List.getElem?_cons_zero]; rfl) (by kernel_rfl) (by kernel_rfl) (by kernel_rfl) (by kernel_rfl) (fun _ _ _ h => h) (Or.inl ⟨by rfl, ?_⟩) (fun _ => by assumption) ?_
    rotate_left 1
    · (intro w' _; go_simp; try with_reducible rfl)
    try simp only [Act.put, List.setIfInBounds_toArray, List.set_cons_zero, List.set_cons_succ]
    refine wpAnyW_take (i := 10) (v := _) (by simp only [List.getElem?_toArray, List.getElem?_cons_succ, List.getElem?_cons_zero]; rfl) (by kernel_rfl) (by kernel_rfl) (by kernel_rfl) (by kernel_rfl) (by kernel_rfl) (fun _ _ _ h => h) (yPp (by rfl) 8 (Wi.cellsT wn) rfl rfl (fun V h => h) (wn_part ⟨ad, st, E, tm, wn, no, be, se⟩) Try.underlying45 rfl infoWn) (by assumption) ?_
    try simp only [Act.put, List.setIfInBounds_toArray, List.set_cons_zero, List.set_cons_succ]
    refine wpAnyW_held (i := 6) (by kernel_rfl) (by simp only [List.getElem?_toArray, List.getElem?_cons_succ, List.getElem?_cons_zero]; rfl) (fun K hK => ?_)
    rw [if_pos (by rfl)]
    go_simp
    refine (HK1.out _).mono ?_
    rintro _ w1 ⟨rfl, hb⟩
    have hS := hHeld.later hb
    replace HQ := Lib.hid (HQ.out.later hb)
    replace HA := Lib.hid (HA.out.later hb)
    replace HT := Lib.hid (HT.out.below hb)
    clear hHeld hb
    go_wp2_with fail
    refine hK.out _ _ hS (fun hHeld => ?_)
    clear hK K hS
    try simp only [Act.put, List.setIfInBounds_toArray, List.set_cons_zero, List.set_cons_succ]
    refine wpAnyW_held (i := 11) (by kernel_rfl) (by simp only [List.getElem?_toArray, List.getElem?_cons_succ, List.getElem?_cons_zero]; rfl) (fun K hK => ?_)
    rw [if_pos (by rfl)]
    go_simp
    refine (HK2.out _).mono ?_
    rintro _ w1 ⟨rfl, hb⟩
    have hS := hHeld.later hb
    replace HQ := Lib.hid (HQ.out.later hb)
    replace HA := Lib.hid (HA.out.later hb)
    replace HT := Lib.hid (HT.out.below hb)
    clear hHeld hb
    go_wp2_with fail
    refine hK.out _ _ hS (fun hHeld => ?_)
    clear hK K hS
    try simp only [Act.put, List.setIfInBounds_toArray, List.set_cons_zero, List.set_cons_succ]
    refine wpAnyW_held (i := 12) (by kernel_rfl) (by simp only [List.getElem?_toArray, List.getElem?_cons_succ, List.getElem?_cons_zero]; rfl) (fun K hK => ?_)
    rw [if_pos (by rfl)]
    go_simp
    refine hK.out _ _ hHeld (fun hHeld => ?_)
    clear hK K
    try simp only [Act.put, List.setIfInBounds_toArray, List.set_cons_zero, List.set_cons_succ]
    refine wpAnyW_held (i := 13) (by kernel_rfl) (by simp only [List.getElem?_toArray, List.getElem?_cons_succ, List.getElem?_cons_zero]; rfl) (fun K hK => ?_)
    rw [if_pos (by rfl)]
    go_simp
    refine hK.out _ _ hHeld (fun hHeld => ?_)
    clear hK K
    try simp only [Act.put, List.setIfInBounds_toArray, List.set_cons_zero, List.set_cons_succ]
    refine wpAnyW_freed (i := 14) (by kernel_rfl) (by kernel_rfl) (by simp only [List.getElem?_toArray, List.getElem?_cons_succ, List.getElem?_cons_zero]; rfl) (fun K hK => ?_)
    rw [if_pos (by rfl)]
    refine wpPp (xs' := cellsPa (⟨ad, st, E, tm9, wn, no, be, se⟩ : Pa)) 3 (cellsT tm9) rfl rfl rfl hHeld (by show 3 + 5 ≤ 14; decide) infoTm (cellsT_one _) rfl ?_
    intro w3 ht hg
    have HP := Lib.hid ht
    replace HQ := Lib.hid (HQ.out.kept hg (Ne.symm hgq))
    replace HA := Lib.hid (HA.out.kept hg (Ne.symm hga))
    replace HT := Lib.hid (HT.out.grown hg (by simp))
    clear ht hg
    refine hK.out _ _ ?_
    clear hK K
    try simp only [Act.put, List.setIfInBounds_toArray, List.set_cons_zero, List.set_cons_succ]
    refine wpAnyW_freed (i := 15) (by kernel_rfl) (by kernel_rfl) (by simp only [List.getElem?_toArray, List.getElem?_cons_succ, List.getElem?_cons_zero]; rfl) (fun K hK => ?_)
    rw [if_pos (by rfl)]
    go_simp
    refine hK.out _ _ ?_
    clear hK K
    try simp only [Act.put, List.setIfInBounds_toArray, List.set_cons_zero, List.set_cons_succ]
    refine wpAnyW_freed (i := 16) (by kernel_rfl) (by kernel_rfl) (by simp only [List.getElem?_toArray, List.getElem?_cons_succ, List.getElem?_cons_zero]; rfl) (fun K hK => ?_)
    rw [if_pos (by rfl)]
    go_simp
    refine hK.out _ _ ?_
    clear hK K
    try simp only [Act.put, List.setIfInBounds_toArray, List.set_cons_zero, List.set_cons_succ]
    refine wpAnyW_freed (i := 17) (by kernel_rfl) (by kernel_rfl) (by simp only [List.getElem?_toArray, List.getElem?_cons_succ, List.getElem?_cons_zero]; rfl) (fun K hK => ?_)
    rw [if_pos (by rfl)]
    refine wpPp (xs' := cellsPa (⟨ad, st, E, tm9, wn9, no, be, se⟩ : Pa)) 8 (Wi.cellsT wn9) rfl rfl rfl HP.out (by show 8 + 3 ≤ 14; decide) infoWn (Wi.cellsT_one _) rfl ?_
    intro w3 ht hg
    have HP := Lib.hid ht
    replace HQ := Lib.hid (HQ.out.kept hg (Ne.symm hgq))
    replace HA := Lib.hid (HA.out.kept hg (Ne.symm hga))
    replace HT := Lib.hid (HT.out.grown hg (by simp))
    clear ht hg
    refine hK.out _ _ ?_
    clear hK K
    try simp only [Act.put, List.setIfInBounds_toArray, List.set_cons_zero, List.set_cons_succ]
    refine wpAnyW_done (by kernel_rfl) ?_ _
    refine NoPanic.normal ?_
    clear HK1 HK2 hHeld
    have c2 := HP.out.cell 2 (.int .i64 E) rfl
    have c1 := HP.out.cell 1 (.int .i64 st) rfl
    have cq := HQ.out.cell 2 (.int .i64 M) rfl
    go_wp2_with (first
    | ((with_reducible refine gate9 ?_); refine stPf (xs' := cellsPa (⟨ad, st, E, tm9, wn9, no, be, se⟩ : Pa)) 1 (.int .i64 3) rfl rfl rfl rfl HP.out (by show 1 < 14; decide) infoI rfl rfl ?_; intro w2 ht hg; replace HT := Lib.hid (HT.out.grown hg (by simp)); replace HQ := Lib.hid (HQ.out.kept hg (Ne.symm hgq)); replace HA := Lib.hid (HA.out.kept hg (Ne.symm hga)); replace HP := Lib.hid ht; clear ht hg; clear c1 c2 cq; have cq := HQ.out.cell 2 (.int .i64 M) rfl)
    | ((with_reducible refine gate9 ?_); refine stF (.bool (decide (10 < M))) rfl rfl rfl rfl HA.out (by show 0 < 1; decide) infoB rfl ?_; intro w2 ht hg; clear cq; replace HT := Lib.hid (HT.out.grown hg (by simp)); replace HP := Lib.hid (HP.out.kept hg hga); replace HQ := Lib.hid (HQ.out.kept hg hqa); replace HA : Hid (Bx w2 ga 4 #[.bool (decide (10 < M))]) := Lib.hid ht; clear ht hg))
    refine bodyPost_end (results_none rfl _ _ _) rfl ?_
    exact ⟨rfl, by rw [HF.out]; exact HP.out, HQ.out, HA.out, HT.out⟩
end Go.Proofs.Ytpihgnpbaaagpaa
