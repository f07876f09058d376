/-
  A chunk with nothing but what its type has, as the document has it: a contract. Whether a chunk is as the document asks, but for its length: a contract. The document's bytes of a chunk, whether it is right, how many there are: contracts.
-/
import Derived.Test.YtlbaockipeojhaaGreatRkA
import Derived.Test.YtlbaockipeojhaaGreatRefBuild
import Derived.Test.YtlbaockipeojhaaGreatSame
import Derived.Test.YtlbaockipeojhaaGreatRkV
import Derived.BigRegion
section
namespace Go.Proofs.YtlbaockipeojhaaGreat
open Go.RowKit
set_option linter.unusedVariables false
set_option linter.unusedSimpArgs false
set_option maxRecDepth 100000

theorem second_new (w : World) (o o' : Obj) : ((w.alloc o).alloc o').heap[w.heap.size + 1]? = some o' := by
  have h := heap_alloc_new (w.alloc o) o'
  rw [World.size_alloc] at h
  exact h
theorem below_two (w : World) (o o' : Obj) : Below w.heap.size w ((w.alloc o).alloc o') := ((Below.refl _ _).alloc (Nat.le_refl _) _).alloc (by rw [World.size_alloc]; omega) _
set_option maxHeartbeats 8000000 in
theorem ronly_any (c : Ck) (g d it : Value) (w : World) (hp : Parts w c g d it) :
    Calls Tryz.prog 85 #[.agg (cellsC c g d it)] w (GaveQ (onlyC c) w) := by
  have HP := Lib.hid hp
  have HCS := Lib.hid rkSize
  obtain ⟨⟨A1, k1, rfl⟩, ⟨A2, k2, rfl⟩, ⟨A3, k3, rfl⟩⟩ := hp.slices
  obtain ⟨ty, fl, tsn, tag, win, ppid, st, ssn, outs, ins, gaps, dups, items, text⟩ := c
  dsimp only [cellsC] at *
  clear hp
  by_cases t0 : ty = 0
  · subst t0
    rw [show onlyC ⟨0, fl, tsn, tag, win, ppid, st, ssn, outs, ins, gaps, dups, items, text⟩ = ⟨0, fl, tsn, 0, 0, ppid, st, ssn, 0, 0, [], [], [], text⟩ from rfl]
    go_enter Tryz.func85, Tryz.ntmps85
    go_wp2_with fail
    have HB := Lib.hid (below_two w (.cells #[.int .i64 0, .int .i64 fl, .int .u32 (tsn : Int), .int .u32 (tag : Int), .int .u32 (win : Int), .int .u32 (ppid : Int), .int .u16 (st : Int), .int .u16 (ssn : Int), .int .u16 (outs : Int), .int .u16 (ins : Int), .slice A1 gaps.length k1, .slice A2 dups.length k2, .slice A3 items.length k3, .string text] 74) (.cells #[.int .i64 0, .int .i64 fl, .int .u32 (tsn : Int), .int .u32 0, .int .u32 0, .int .u32 (ppid : Int), .int .u16 (st : Int), .int .u16 (ssn : Int), .int .u16 0, .int .u16 0, .slice none 0 0, .slice none 0 0, .slice none 0 0, .string text] 74))
    exact bodyPost_ret (v := .agg #[.int .i64 0, .int .i64 fl, .int .u32 (tsn : Int), .int .u32 0, .int .u32 0, .int .u32 (ppid : Int), .int .u16 (st : Int), .int .u16 (ssn : Int), .int .u16 0, .int .u16 0, .slice none 0 0, .slice none 0 0, .slice none 0 0, .string text]) (results_cell_row Tryz.results85 _ _ (w.heap.size + 1) _ #[.int .i64 0, .int .i64 fl, .int .u32 (tsn : Int), .int .u32 0, .int .u32 0, .int .u32 (ppid : Int), .int .u16 (st : Int), .int .u16 (ssn : Int), .int .u16 0, .int .u16 0, .slice none 0 0, .slice none 0 0, .slice none 0 0, .string text] _ _ (by rfl) (second_new w _ _) Tryz.underlying74 rfl HCS.out) rfl ⟨_, _, _, rfl, ⟨RowG.nil _, RowN.nil _, RowI.nil _⟩, HB.out⟩
  by_cases t1 : ty = 1
  · subst t1
    rw [show onlyC ⟨1, fl, tsn, tag, win, ppid, st, ssn, outs, ins, gaps, dups, items, text⟩ = ⟨1, 0, tsn, tag, win, 0, 0, 0, outs, ins, [], [], items, noB⟩ from rfl]
    go_enter Tryz.func85, Tryz.ntmps85
    go_wp2_with fail
    have HB := Lib.hid (below_two w (.cells #[.int .i64 1, .int .i64 fl, .int .u32 (tsn : Int), .int .u32 (tag : Int), .int .u32 (win : Int), .int .u32 (ppid : Int), .int .u16 (st : Int), .int .u16 (ssn : Int), .int .u16 (outs : Int), .int .u16 (ins : Int), .slice A1 gaps.length k1, .slice A2 dups.length k2, .slice A3 items.length k3, .string text] 74) (.cells #[.int .i64 1, .int .i64 0, .int .u32 (tsn : Int), .int .u32 (tag : Int), .int .u32 (win : Int), .int .u32 0, .int .u16 0, .int .u16 0, .int .u16 (outs : Int), .int .u16 (ins : Int), .slice none 0 0, .slice none 0 0, .slice A3 items.length k3, .string ⟨#[]⟩] 74))
    exact bodyPost_ret (v := .agg #[.int .i64 1, .int .i64 0, .int .u32 (tsn : Int), .int .u32 (tag : Int), .int .u32 (win : Int), .int .u32 0, .int .u16 0, .int .u16 0, .int .u16 (outs : Int), .int .u16 (ins : Int), .slice none 0 0, .slice none 0 0, .slice A3 items.length k3, .string ⟨#[]⟩]) (results_cell_row Tryz.results85 _ _ (w.heap.size + 1) _ #[.int .i64 1, .int .i64 0, .int .u32 (tsn : Int), .int .u32 (tag : Int), .int .u32 (win : Int), .int .u32 0, .int .u16 0, .int .u16 0, .int .u16 (outs : Int), .int .u16 (ins : Int), .slice none 0 0, .slice none 0 0, .slice A3 items.length k3, .string ⟨#[]⟩] _ _ (by rfl) (second_new w _ _) Tryz.underlying74 rfl HCS.out) rfl ⟨_, _, _, rfl, ⟨RowG.nil _, RowN.nil _, HP.out.items.below HB.out⟩, HB.out⟩
  by_cases t2 : ty = 2
  · subst t2
    rw [show onlyC ⟨2, fl, tsn, tag, win, ppid, st, ssn, outs, ins, gaps, dups, items, text⟩ = ⟨2, 0, tsn, tag, win, 0, 0, 0, outs, ins, [], [], items, noB⟩ from rfl]
    go_enter Tryz.func85, Tryz.ntmps85
    go_wp2_with fail
    have HB := Lib.hid (below_two w (.cells #[.int .i64 2, .int .i64 fl, .int .u32 (tsn : Int), .int .u32 (tag : Int), .int .u32 (win : Int), .int .u32 (ppid : Int), .int .u16 (st : Int), .int .u16 (ssn : Int), .int .u16 (outs : Int), .int .u16 (ins : Int), .slice A1 gaps.length k1, .slice A2 dups.length k2, .slice A3 items.length k3, .string text] 74) (.cells #[.int .i64 2, .int .i64 0, .int .u32 (tsn : Int), .int .u32 (tag : Int), .int .u32 (win : Int), .int .u32 0, .int .u16 0, .int .u16 0, .int .u16 (outs : Int), .int .u16 (ins : Int), .slice none 0 0, .slice none 0 0, .slice A3 items.length k3, .string ⟨#[]⟩] 74))
    exact bodyPost_ret (v := .agg #[.int .i64 2, .int .i64 0, .int .u32 (tsn : Int), .int .u32 (tag : Int), .int .u32 (win : Int), .int .u32 0, .int .u16 0, .int .u16 0, .int .u16 (outs : Int), .int .u16 (ins : Int), .slice none 0 0, .slice none 0 0, .slice A3 items.length k3, .string ⟨#[]⟩]) (results_cell_row Tryz.results85 _ _ (w.heap.size + 1) _ #[.int .i64 2, .int .i64 0, .int .u32 (tsn : Int), .int .u32 (tag : Int), .int .u32 (win : Int), .int .u32 0, .int .u16 0, .int .u16 0, .int .u16 (outs : Int), .int .u16 (ins : Int), .slice none 0 0, .slice none 0 0, .slice A3 items.length k3, .string ⟨#[]⟩] _ _ (by rfl) (second_new w _ _) Tryz.underlying74 rfl HCS.out) rfl ⟨_, _, _, rfl, ⟨RowG.nil _, RowN.nil _, HP.out.items.below HB.out⟩, HB.out⟩
  by_cases t3 : ty = 3
  · subst t3
    rw [show onlyC ⟨3, fl, tsn, tag, win, ppid, st, ssn, outs, ins, gaps, dups, items, text⟩ = ⟨3, 0, tsn, 0, win, 0, 0, 0, 0, 0, gaps, dups, [], noB⟩ from rfl]
    go_enter Tryz.func85, Tryz.ntmps85
    go_wp2_with fail
    have HB := Lib.hid (below_two w (.cells #[.int .i64 3, .int .i64 fl, .int .u32 (tsn : Int), .int .u32 (tag : Int), .int .u32 (win : Int), .int .u32 (ppid : Int), .int .u16 (st : Int), .int .u16 (ssn : Int), .int .u16 (outs : Int), .int .u16 (ins : Int), .slice A1 gaps.length k1, .slice A2 dups.length k2, .slice A3 items.length k3, .string text] 74) (.cells #[.int .i64 3, .int .i64 0, .int .u32 (tsn : Int), .int .u32 0, .int .u32 (win : Int), .int .u32 0, .int .u16 0, .int .u16 0, .int .u16 0, .int .u16 0, .slice A1 gaps.length k1, .slice A2 dups.length k2, .slice none 0 0, .string ⟨#[]⟩] 74))
    exact bodyPost_ret (v := .agg #[.int .i64 3, .int .i64 0, .int .u32 (tsn : Int), .int .u32 0, .int .u32 (win : Int), .int .u32 0, .int .u16 0, .int .u16 0, .int .u16 0, .int .u16 0, .slice A1 gaps.length k1, .slice A2 dups.length k2, .slice none 0 0, .string ⟨#[]⟩]) (results_cell_row Tryz.results85 _ _ (w.heap.size + 1) _ #[.int .i64 3, .int .i64 0, .int .u32 (tsn : Int), .int .u32 0, .int .u32 (win : Int), .int .u32 0, .int .u16 0, .int .u16 0, .int .u16 0, .int .u16 0, .slice A1 gaps.length k1, .slice A2 dups.length k2, .slice none 0 0, .string ⟨#[]⟩] _ _ (by rfl) (second_new w _ _) Tryz.underlying74 rfl HCS.out) rfl ⟨_, _, _, rfl, ⟨HP.out.gaps.below HB.out, HP.out.dups.below HB.out, RowI.nil _⟩, HB.out⟩
  by_cases t4 : ty = 4
  · subst t4
    rw [show onlyC ⟨4, fl, tsn, tag, win, ppid, st, ssn, outs, ins, gaps, dups, items, text⟩ = ⟨4, 0, 0, 0, 0, 0, 0, 0, 0, 0, [], [], items, noB⟩ from rfl]
    go_enter Tryz.func85, Tryz.ntmps85
    go_wp2_with fail
    have HB := Lib.hid (below_two w (.cells #[.int .i64 4, .int .i64 fl, .int .u32 (tsn : Int), .int .u32 (tag : Int), .int .u32 (win : Int), .int .u32 (ppid : Int), .int .u16 (st : Int), .int .u16 (ssn : Int), .int .u16 (outs : Int), .int .u16 (ins : Int), .slice A1 gaps.length k1, .slice A2 dups.length k2, .slice A3 items.length k3, .string text] 74) (.cells #[.int .i64 4, .int .i64 0, .int .u32 0, .int .u32 0, .int .u32 0, .int .u32 0, .int .u16 0, .int .u16 0, .int .u16 0, .int .u16 0, .slice none 0 0, .slice none 0 0, .slice A3 items.length k3, .string ⟨#[]⟩] 74))
    exact bodyPost_ret (v := .agg #[.int .i64 4, .int .i64 0, .int .u32 0, .int .u32 0, .int .u32 0, .int .u32 0, .int .u16 0, .int .u16 0, .int .u16 0, .int .u16 0, .slice none 0 0, .slice none 0 0, .slice A3 items.length k3, .string ⟨#[]⟩]) (results_cell_row Tryz.results85 _ _ (w.heap.size + 1) _ #[.int .i64 4, .int .i64 0, .int .u32 0, .int .u32 0, .int .u32 0, .int .u32 0, .int .u16 0, .int .u16 0, .int .u16 0, .int .u16 0, .slice none 0 0, .slice none 0 0, .slice A3 items.length k3, .string ⟨#[]⟩] _ _ (by rfl) (second_new w _ _) Tryz.underlying74 rfl HCS.out) rfl ⟨_, _, _, rfl, ⟨RowG.nil _, RowN.nil _, HP.out.items.below HB.out⟩, HB.out⟩
  by_cases t5 : ty = 5
  · subst t5
    rw [show onlyC ⟨5, fl, tsn, tag, win, ppid, st, ssn, outs, ins, gaps, dups, items, text⟩ = ⟨5, 0, 0, 0, 0, 0, 0, 0, 0, 0, [], [], items, noB⟩ from rfl]
    go_enter Tryz.func85, Tryz.ntmps85
    go_wp2_with fail
    have HB := Lib.hid (below_two w (.cells #[.int .i64 5, .int .i64 fl, .int .u32 (tsn : Int), .int .u32 (tag : Int), .int .u32 (win : Int), .int .u32 (ppid : Int), .int .u16 (st : Int), .int .u16 (ssn : Int), .int .u16 (outs : Int), .int .u16 (ins : Int), .slice A1 gaps.length k1, .slice A2 dups.length k2, .slice A3 items.length k3, .string text] 74) (.cells #[.int .i64 5, .int .i64 0, .int .u32 0, .int .u32 0, .int .u32 0, .int .u32 0, .int .u16 0, .int .u16 0, .int .u16 0, .int .u16 0, .slice none 0 0, .slice none 0 0, .slice A3 items.length k3, .string ⟨#[]⟩] 74))
    exact bodyPost_ret (v := .agg #[.int .i64 5, .int .i64 0, .int .u32 0, .int .u32 0, .int .u32 0, .int .u32 0, .int .u16 0, .int .u16 0, .int .u16 0, .int .u16 0, .slice none 0 0, .slice none 0 0, .slice A3 items.length k3, .string ⟨#[]⟩]) (results_cell_row Tryz.results85 _ _ (w.heap.size + 1) _ #[.int .i64 5, .int .i64 0, .int .u32 0, .int .u32 0, .int .u32 0, .int .u32 0, .int .u16 0, .int .u16 0, .int .u16 0, .int .u16 0, .slice none 0 0, .slice none 0 0, .slice A3 items.length k3, .string ⟨#[]⟩] _ _ (by rfl) (second_new w _ _) Tryz.underlying74 rfl HCS.out) rfl ⟨_, _, _, rfl, ⟨RowG.nil _, RowN.nil _, HP.out.items.below HB.out⟩, HB.out⟩
  by_cases t9 : ty = 9
  · subst t9
    rw [show onlyC ⟨9, fl, tsn, tag, win, ppid, st, ssn, outs, ins, gaps, dups, items, text⟩ = ⟨9, 0, 0, 0, 0, 0, 0, 0, 0, 0, [], [], items, noB⟩ from rfl]
    go_enter Tryz.func85, Tryz.ntmps85
    go_wp2_with fail
    have HB := Lib.hid (below_two w (.cells #[.int .i64 9, .int .i64 fl, .int .u32 (tsn : Int), .int .u32 (tag : Int), .int .u32 (win : Int), .int .u32 (ppid : Int), .int .u16 (st : Int), .int .u16 (ssn : Int), .int .u16 (outs : Int), .int .u16 (ins : Int), .slice A1 gaps.length k1, .slice A2 dups.length k2, .slice A3 items.length k3, .string text] 74) (.cells #[.int .i64 9, .int .i64 0, .int .u32 0, .int .u32 0, .int .u32 0, .int .u32 0, .int .u16 0, .int .u16 0, .int .u16 0, .int .u16 0, .slice none 0 0, .slice none 0 0, .slice A3 items.length k3, .string ⟨#[]⟩] 74))
    exact bodyPost_ret (v := .agg #[.int .i64 9, .int .i64 0, .int .u32 0, .int .u32 0, .int .u32 0, .int .u32 0, .int .u16 0, .int .u16 0, .int .u16 0, .int .u16 0, .slice none 0 0, .slice none 0 0, .slice A3 items.length k3, .string ⟨#[]⟩]) (results_cell_row Tryz.results85 _ _ (w.heap.size + 1) _ #[.int .i64 9, .int .i64 0, .int .u32 0, .int .u32 0, .int .u32 0, .int .u32 0, .int .u16 0, .int .u16 0, .int .u16 0, .int .u16 0, .slice none 0 0, .slice none 0 0, .slice A3 items.length k3, .string ⟨#[]⟩] _ _ (by rfl) (second_new w _ _) Tryz.underlying74 rfl HCS.out) rfl ⟨_, _, _, rfl, ⟨RowG.nil _, RowN.nil _, HP.out.items.below HB.out⟩, HB.out⟩
  by_cases t6 : ty = 6
  · subst t6
    rw [show onlyC ⟨6, fl, tsn, tag, win, ppid, st, ssn, outs, ins, gaps, dups, items, text⟩ = ⟨6, fl, 0, 0, 0, 0, 0, 0, 0, 0, [], [], items, noB⟩ from rfl]
    go_enter Tryz.func85, Tryz.ntmps85
    go_wp2_with fail
    have HB := Lib.hid (below_two w (.cells #[.int .i64 6, .int .i64 fl, .int .u32 (tsn : Int), .int .u32 (tag : Int), .int .u32 (win : Int), .int .u32 (ppid : Int), .int .u16 (st : Int), .int .u16 (ssn : Int), .int .u16 (outs : Int), .int .u16 (ins : Int), .slice A1 gaps.length k1, .slice A2 dups.length k2, .slice A3 items.length k3, .string text] 74) (.cells #[.int .i64 6, .int .i64 fl, .int .u32 0, .int .u32 0, .int .u32 0, .int .u32 0, .int .u16 0, .int .u16 0, .int .u16 0, .int .u16 0, .slice none 0 0, .slice none 0 0, .slice A3 items.length k3, .string ⟨#[]⟩] 74))
    exact bodyPost_ret (v := .agg #[.int .i64 6, .int .i64 fl, .int .u32 0, .int .u32 0, .int .u32 0, .int .u32 0, .int .u16 0, .int .u16 0, .int .u16 0, .int .u16 0, .slice none 0 0, .slice none 0 0, .slice A3 items.length k3, .string ⟨#[]⟩]) (results_cell_row Tryz.results85 _ _ (w.heap.size + 1) _ #[.int .i64 6, .int .i64 fl, .int .u32 0, .int .u32 0, .int .u32 0, .int .u32 0, .int .u16 0, .int .u16 0, .int .u16 0, .int .u16 0, .slice none 0 0, .slice none 0 0, .slice A3 items.length k3, .string ⟨#[]⟩] _ _ (by rfl) (second_new w _ _) Tryz.underlying74 rfl HCS.out) rfl ⟨_, _, _, rfl, ⟨RowG.nil _, RowN.nil _, HP.out.items.below HB.out⟩, HB.out⟩
  by_cases t7 : ty = 7
  · subst t7
    rw [show onlyC ⟨7, fl, tsn, tag, win, ppid, st, ssn, outs, ins, gaps, dups, items, text⟩ = ⟨7, 0, tsn, 0, 0, 0, 0, 0, 0, 0, [], [], [], noB⟩ from rfl]
    go_enter Tryz.func85, Tryz.ntmps85
    go_wp2_with fail
    have HB := Lib.hid (below_two w (.cells #[.int .i64 7, .int .i64 fl, .int .u32 (tsn : Int), .int .u32 (tag : Int), .int .u32 (win : Int), .int .u32 (ppid : Int), .int .u16 (st : Int), .int .u16 (ssn : Int), .int .u16 (outs : Int), .int .u16 (ins : Int), .slice A1 gaps.length k1, .slice A2 dups.length k2, .slice A3 items.length k3, .string text] 74) (.cells #[.int .i64 7, .int .i64 0, .int .u32 (tsn : Int), .int .u32 0, .int .u32 0, .int .u32 0, .int .u16 0, .int .u16 0, .int .u16 0, .int .u16 0, .slice none 0 0, .slice none 0 0, .slice none 0 0, .string ⟨#[]⟩] 74))
    exact bodyPost_ret (v := .agg #[.int .i64 7, .int .i64 0, .int .u32 (tsn : Int), .int .u32 0, .int .u32 0, .int .u32 0, .int .u16 0, .int .u16 0, .int .u16 0, .int .u16 0, .slice none 0 0, .slice none 0 0, .slice none 0 0, .string ⟨#[]⟩]) (results_cell_row Tryz.results85 _ _ (w.heap.size + 1) _ #[.int .i64 7, .int .i64 0, .int .u32 (tsn : Int), .int .u32 0, .int .u32 0, .int .u32 0, .int .u16 0, .int .u16 0, .int .u16 0, .int .u16 0, .slice none 0 0, .slice none 0 0, .slice none 0 0, .string ⟨#[]⟩] _ _ (by rfl) (second_new w _ _) Tryz.underlying74 rfl HCS.out) rfl ⟨_, _, _, rfl, ⟨RowG.nil _, RowN.nil _, RowI.nil _⟩, HB.out⟩
  by_cases t8 : ty = 8
  · subst t8
    rw [show onlyC ⟨8, fl, tsn, tag, win, ppid, st, ssn, outs, ins, gaps, dups, items, text⟩ = ⟨8, 0, 0, 0, 0, 0, 0, 0, 0, 0, [], [], [], noB⟩ from rfl]
    go_enter Tryz.func85, Tryz.ntmps85
    go_wp2_with fail
    have HB := Lib.hid (below_two w (.cells #[.int .i64 8, .int .i64 fl, .int .u32 (tsn : Int), .int .u32 (tag : Int), .int .u32 (win : Int), .int .u32 (ppid : Int), .int .u16 (st : Int), .int .u16 (ssn : Int), .int .u16 (outs : Int), .int .u16 (ins : Int), .slice A1 gaps.length k1, .slice A2 dups.length k2, .slice A3 items.length k3, .string text] 74) (.cells #[.int .i64 8, .int .i64 0, .int .u32 0, .int .u32 0, .int .u32 0, .int .u32 0, .int .u16 0, .int .u16 0, .int .u16 0, .int .u16 0, .slice none 0 0, .slice none 0 0, .slice none 0 0, .string ⟨#[]⟩] 74))
    exact bodyPost_ret (v := .agg #[.int .i64 8, .int .i64 0, .int .u32 0, .int .u32 0, .int .u32 0, .int .u32 0, .int .u16 0, .int .u16 0, .int .u16 0, .int .u16 0, .slice none 0 0, .slice none 0 0, .slice none 0 0, .string ⟨#[]⟩]) (results_cell_row Tryz.results85 _ _ (w.heap.size + 1) _ #[.int .i64 8, .int .i64 0, .int .u32 0, .int .u32 0, .int .u32 0, .int .u32 0, .int .u16 0, .int .u16 0, .int .u16 0, .int .u16 0, .slice none 0 0, .slice none 0 0, .slice none 0 0, .string ⟨#[]⟩] _ _ (by rfl) (second_new w _ _) Tryz.underlying74 rfl HCS.out) rfl ⟨_, _, _, rfl, ⟨RowG.nil _, RowN.nil _, RowI.nil _⟩, HB.out⟩
  by_cases t11 : ty = 11
  · subst t11
    rw [show onlyC ⟨11, fl, tsn, tag, win, ppid, st, ssn, outs, ins, gaps, dups, items, text⟩ = ⟨11, 0, 0, 0, 0, 0, 0, 0, 0, 0, [], [], [], noB⟩ from rfl]
    go_enter Tryz.func85, Tryz.ntmps85
    go_wp2_with fail
    have HB := Lib.hid (below_two w (.cells #[.int .i64 11, .int .i64 fl, .int .u32 (tsn : Int), .int .u32 (tag : Int), .int .u32 (win : Int), .int .u32 (ppid : Int), .int .u16 (st : Int), .int .u16 (ssn : Int), .int .u16 (outs : Int), .int .u16 (ins : Int), .slice A1 gaps.length k1, .slice A2 dups.length k2, .slice A3 items.length k3, .string text] 74) (.cells #[.int .i64 11, .int .i64 0, .int .u32 0, .int .u32 0, .int .u32 0, .int .u32 0, .int .u16 0, .int .u16 0, .int .u16 0, .int .u16 0, .slice none 0 0, .slice none 0 0, .slice none 0 0, .string ⟨#[]⟩] 74))
    exact bodyPost_ret (v := .agg #[.int .i64 11, .int .i64 0, .int .u32 0, .int .u32 0, .int .u32 0, .int .u32 0, .int .u16 0, .int .u16 0, .int .u16 0, .int .u16 0, .slice none 0 0, .slice none 0 0, .slice none 0 0, .string ⟨#[]⟩]) (results_cell_row Tryz.results85 _ _ (w.heap.size + 1) _ #[.int .i64 11, .int .i64 0, .int .u32 0, .int .u32 0, .int .u32 0, .int .u32 0, .int .u16 0, .int .u16 0, .int .u16 0, .int .u16 0, .slice none 0 0, .slice none 0 0, .slice none 0 0, .string ⟨#[]⟩] _ _ (by rfl) (second_new w _ _) Tryz.underlying74 rfl HCS.out) rfl ⟨_, _, _, rfl, ⟨RowG.nil _, RowN.nil _, RowI.nil _⟩, HB.out⟩
  by_cases t10 : ty = 10
  · subst t10
    rw [show onlyC ⟨10, fl, tsn, tag, win, ppid, st, ssn, outs, ins, gaps, dups, items, text⟩ = ⟨10, 0, 0, 0, 0, 0, 0, 0, 0, 0, [], [], [], text⟩ from rfl]
    go_enter Tryz.func85, Tryz.ntmps85
    go_wp2_with fail
    have HB := Lib.hid (below_two w (.cells #[.int .i64 10, .int .i64 fl, .int .u32 (tsn : Int), .int .u32 (tag : Int), .int .u32 (win : Int), .int .u32 (ppid : Int), .int .u16 (st : Int), .int .u16 (ssn : Int), .int .u16 (outs : Int), .int .u16 (ins : Int), .slice A1 gaps.length k1, .slice A2 dups.length k2, .slice A3 items.length k3, .string text] 74) (.cells #[.int .i64 10, .int .i64 0, .int .u32 0, .int .u32 0, .int .u32 0, .int .u32 0, .int .u16 0, .int .u16 0, .int .u16 0, .int .u16 0, .slice none 0 0, .slice none 0 0, .slice none 0 0, .string text] 74))
    exact bodyPost_ret (v := .agg #[.int .i64 10, .int .i64 0, .int .u32 0, .int .u32 0, .int .u32 0, .int .u32 0, .int .u16 0, .int .u16 0, .int .u16 0, .int .u16 0, .slice none 0 0, .slice none 0 0, .slice none 0 0, .string text]) (results_cell_row Tryz.results85 _ _ (w.heap.size + 1) _ #[.int .i64 10, .int .i64 0, .int .u32 0, .int .u32 0, .int .u32 0, .int .u32 0, .int .u16 0, .int .u16 0, .int .u16 0, .int .u16 0, .slice none 0 0, .slice none 0 0, .slice none 0 0, .string text] _ _ (by rfl) (second_new w _ _) Tryz.underlying74 rfl HCS.out) rfl ⟨_, _, _, rfl, ⟨RowG.nil _, RowN.nil _, RowI.nil _⟩, HB.out⟩
  by_cases t14 : ty = 14
  · subst t14
    rw [show onlyC ⟨14, fl, tsn, tag, win, ppid, st, ssn, outs, ins, gaps, dups, items, text⟩ = ⟨14, fl, 0, 0, 0, 0, 0, 0, 0, 0, [], [], [], noB⟩ from rfl]
    go_enter Tryz.func85, Tryz.ntmps85
    go_wp2_with fail
    have HB := Lib.hid (below_two w (.cells #[.int .i64 14, .int .i64 fl, .int .u32 (tsn : Int), .int .u32 (tag : Int), .int .u32 (win : Int), .int .u32 (ppid : Int), .int .u16 (st : Int), .int .u16 (ssn : Int), .int .u16 (outs : Int), .int .u16 (ins : Int), .slice A1 gaps.length k1, .slice A2 dups.length k2, .slice A3 items.length k3, .string text] 74) (.cells #[.int .i64 14, .int .i64 fl, .int .u32 0, .int .u32 0, .int .u32 0, .int .u32 0, .int .u16 0, .int .u16 0, .int .u16 0, .int .u16 0, .slice none 0 0, .slice none 0 0, .slice none 0 0, .string ⟨#[]⟩] 74))
    exact bodyPost_ret (v := .agg #[.int .i64 14, .int .i64 fl, .int .u32 0, .int .u32 0, .int .u32 0, .int .u32 0, .int .u16 0, .int .u16 0, .int .u16 0, .int .u16 0, .slice none 0 0, .slice none 0 0, .slice none 0 0, .string ⟨#[]⟩]) (results_cell_row Tryz.results85 _ _ (w.heap.size + 1) _ #[.int .i64 14, .int .i64 fl, .int .u32 0, .int .u32 0, .int .u32 0, .int .u32 0, .int .u16 0, .int .u16 0, .int .u16 0, .int .u16 0, .slice none 0 0, .slice none 0 0, .slice none 0 0, .string ⟨#[]⟩] _ _ (by rfl) (second_new w _ _) Tryz.underlying74 rfl HCS.out) rfl ⟨_, _, _, rfl, ⟨RowG.nil _, RowN.nil _, RowI.nil _⟩, HB.out⟩
  rw [show onlyC ⟨ty, fl, tsn, tag, win, ppid, st, ssn, outs, ins, gaps, dups, items, text⟩ = ⟨ty, fl, 0, 0, 0, 0, 0, 0, 0, 0, [], [], [], text⟩ from by simp only [onlyC, t0, t1, t2, t3, t4, t5, t9, t6, t7, t8, t11, t10, t14, if_false, or_self]]
  go_enter Tryz.func85, Tryz.ntmps85
  go_wp2_with fail
  have HB := Lib.hid (below_two w (.cells #[.int .i64 ty, .int .i64 fl, .int .u32 (tsn : Int), .int .u32 (tag : Int), .int .u32 (win : Int), .int .u32 (ppid : Int), .int .u16 (st : Int), .int .u16 (ssn : Int), .int .u16 (outs : Int), .int .u16 (ins : Int), .slice A1 gaps.length k1, .slice A2 dups.length k2, .slice A3 items.length k3, .string text] 74) (.cells #[.int .i64 ty, .int .i64 fl, .int .u32 0, .int .u32 0, .int .u32 0, .int .u32 0, .int .u16 0, .int .u16 0, .int .u16 0, .int .u16 0, .slice none 0 0, .slice none 0 0, .slice none 0 0, .string text] 74))
  exact bodyPost_ret (v := .agg #[.int .i64 ty, .int .i64 fl, .int .u32 0, .int .u32 0, .int .u32 0, .int .u32 0, .int .u16 0, .int .u16 0, .int .u16 0, .int .u16 0, .slice none 0 0, .slice none 0 0, .slice none 0 0, .string text]) (results_cell_row Tryz.results85 _ _ (w.heap.size + 1) _ #[.int .i64 ty, .int .i64 fl, .int .u32 0, .int .u32 0, .int .u32 0, .int .u32 0, .int .u16 0, .int .u16 0, .int .u16 0, .int .u16 0, .slice none 0 0, .slice none 0 0, .slice none 0 0, .string text] _ _ (by rfl) (second_new w _ _) Tryz.underlying74 rfl HCS.out) rfl ⟨_, _, _, rfl, ⟨RowG.nil _, RowN.nil _, RowI.nil _⟩, HB.out⟩
end Go.Proofs.YtlbaockipeojhaaGreat
end
section
namespace Go.Proofs.YtlbaockipeojhaaGreat
open Go.RowKit
set_option linter.unusedVariables false
set_option linter.unusedSimpArgs false
set_option maxRecDepth 100000

theorem ValS.range {w W : World} {CS : Array Value} (h : ValS w CS W) : W.rangeAt w.heap.size 0 CS.toList := by
  intro j v hj
  rw [Nat.zero_add, cell_in h.1]
  simpa using hj
set_option maxHeartbeats 8000000 in
theorem rshaped_any (c : Ck) (hw : WfC c) (h1 : c.gaps.length ≤ 100000) (h2 : c.dups.length ≤ 100000) (h3 : c.items.length ≤ 100000) (hs : ∀ x ∈ c.items, x.2.size ≤ 1000000) (g d it : Value) (w : World) (hp : Parts w c g d it) :
    Calls Tryz.prog 53 #[.agg (cellsC c g d it)] w fun e w' => e = .returned (.bool (formedB c && decide ((buildB c.items).2 = 0))) ∧ Below w.heap.size w w' := by
  have HCS := Lib.hid rkSize
  obtain ⟨r1, r2, r3⟩ := only_rows c
  have HBU := Lib.hid (fun W hq => rbuild_any c.items h3 hs it W hq)
  have HON := Lib.hid (fun W hq => ronly_any c g d it W hq)
  have HSM := Lib.hid (fun g' d' it' W hq hq' => same7_any c (onlyC c) r1 r2 r3 h1 h2 h3 g d it g' d' it' W hq hq')
  have HFI := Lib.hid (fun W hq => rfits_any c hw h1 g d it W hq)
  rw [← shaped_formed c (by omega)]
  generalize sameB c (onlyC c) = q1 at *
  generalize fitsB c = q2 at *
  generalize onlyC c = oc at *
  generalize (buildB c.items).1 = bb at *
  generalize (buildB c.items).2 = e0 at *
  obtain ⟨r, hr⟩ : ∃ r, r = (q1 && q2 && decide (e0 = 0)) := ⟨_, rfl⟩
  rw [← hr]
  have HR := Lib.hid hr
  clear hr
  have HP := Lib.hid hp
  obtain ⟨⟨A1, k1, rfl⟩, ⟨A2, k2, rfl⟩, ⟨A3, k3, rfl⟩⟩ := hp.slices
  clear hp hw h1 h2 h3 hs r1 r2 r3
  obtain ⟨ty, fl, tsn, tag, win, ppid, st, ssn, outs, ins, gaps, dups, items, text⟩ := c
  have HB0 := Lib.hid ((Below.refl w.heap.size w).alloc (Nat.le_refl _) (.cells #[.int .i64 ty, .int .i64 fl, .int .u32 (tsn : Int), .int .u32 (tag : Int), .int .u32 (win : Int), .int .u32 (ppid : Int), .int .u16 (st : Int), .int .u16 (ssn : Int), .int .u16 (outs : Int), .int .u16 (ins : Int), .slice A1 gaps.length k1, .slice A2 dups.length k2, .slice A3 items.length k3, .string text] 74))
  dsimp only [cellsC] at HBU HON HSM HFI ⊢
  go_enter Tryz.func53, Tryz.ntmps53
  go_wp2_with fail
  refine (HBU.out _ (HP.out.items.below HB0.out)).mono ?_
  rintro _ w1 ⟨rfl, hb1⟩
  have HX := Lib.hid ((hb1.block _ (by rw [World.size_alloc]; omega)).trans (heap_alloc_new w (.cells #[.int .i64 ty, .int .i64 fl, .int .u32 (tsn : Int), .int .u32 (tag : Int), .int .u32 (win : Int), .int .u32 (ppid : Int), .int .u16 (st : Int), .int .u16 (ssn : Int), .int .u16 (outs : Int), .int .u16 (ins : Int), .slice A1 gaps.length k1, .slice A2 dups.length k2, .slice A3 items.length k3, .string text] 74)))
  have HVS := Lib.hid (show ValS w #[.int .i64 ty, .int .i64 fl, .int .u32 (tsn : Int), .int .u32 (tag : Int), .int .u32 (win : Int), .int .u32 (ppid : Int), .int .u16 (st : Int), .int .u16 (ssn : Int), .int .u16 (outs : Int), .int .u16 (ins : Int), .slice A1 gaps.length k1, .slice A2 dups.length k2, .slice A3 items.length k3, .string text] w1 from ⟨HX.out, HB0.out.trans (hb1.mono (by rw [World.size_alloc]; omega))⟩)
  clear hb1 HX HBU
  go_wp2_with fail
  replace HVS := Lib.hid HVS.out.drew
  refine wp_region_noPanic ?_
  refine wp_region_held_drew (S := ValS w #[.int .i64 ty, .int .i64 fl, .int .u32 (tsn : Int), .int .u32 (tag : Int), .int .u32 (win : Int), .int .u32 (ppid : Int), .int .u16 (st : Int), .int .u16 (ssn : Int), .int .u16 (outs : Int), .int .u16 (ins : Int), .slice A1 gaps.length k1, .slice A2 dups.length k2, .slice A3 items.length k3, .string text]) (by kernel_rfl) ?_ (fun hHeld => ?_)
  · exact HVS.out
  refine k7 0 _ (y := yieldsIf_load_mid (by rfl) 74 (.tmp 1) rfl _ 0 (by rfl) _ _ (fun W h => ValS.range h) Tryz.underlying74 rfl HCS.out) (h := ?_)
  try simp only [Act.put, p9a, p9z, p9s]
  refine k7 1 _ (y := yieldsIf_load_mid (by rfl) 74 (.tmp 1) rfl _ 0 (by rfl) _ _ (fun W h => ValS.range h) Tryz.underlying74 rfl HCS.out) (h := ?_)
  try simp only [Act.put, p9a, p9z, p9s]
  refine wpAnyH_ready (rs := [2]) (by kernel_rfl) (by simp) ?_
  refine AllReadyH.cons (by simp only [q9a, q9s, q9z]; rfl) (fun K hK => ?_) AllReadyH.nil
  go_simp
  refine (HON.out _ (HP.out.below HVS.out.2)).mono ?_
  rintro _ w2 ⟨g9, d9, it9, rfl, hp9, hb9⟩
  replace HVS := Lib.hid (HVS.out.later hb9)
  have HP9 := Lib.hid hp9
  clear hp9 hb9
  go_wp2_with fail
  refine hK.out _ _ ?_ (fun hHeld => ?_)
  · exact HVS.out
  clear hK K
  try simp only [Act.put, p9a, p9z, p9s]
  refine wpAnyH_ready (rs := [3]) (by kernel_rfl) (by simp) ?_
  refine AllReadyH.cons (by simp only [q9a, q9s, q9z]; rfl) (fun K hK => ?_) AllReadyH.nil
  go_simp
  refine (HSM.out _ _ _ _ (HP.out.below HVS.out.2) HP9.out).mono ?_
  rintro _ w3 ⟨rfl, hb3⟩
  replace HVS := Lib.hid (HVS.out.later hb3)
  clear hb3
  go_wp2_with fail
  refine hK.out _ _ ?_ (fun hHeld => ?_)
  · exact HVS.out
  clear hK K
  try simp only [Act.put, p9a, p9z, p9s]
  refine k9 4 ?_ (y := ?_) (h := ?_)
  rotate_left 1
  · (intro w' hSw; (try dsimp only at hSw); go_simp; try with_reducible rfl)
  try simp only [Act.put, p9a, p9z, p9s]
  refine wpAnyH_done (by kernel_rfl) ?_ _
  refine NoPanic.normal ?_
  clear hHeld HP9 HON HSM
  have c0 : w3.cell? ⟨w.heap.size, 0, none⟩ = some (.int .i64 ty) := by rw [cell_in HVS.out.1]; rfl
  have c1 : w3.cell? ⟨w.heap.size, 1, none⟩ = some (.int .i64 fl) := by rw [cell_in HVS.out.1]; rfl
  have c2 : w3.cell? ⟨w.heap.size, 2, none⟩ = some (.int .u32 (tsn : Int)) := by rw [cell_in HVS.out.1]; rfl
  have c3 : w3.cell? ⟨w.heap.size, 3, none⟩ = some (.int .u32 (tag : Int)) := by rw [cell_in HVS.out.1]; rfl
  have c4 : w3.cell? ⟨w.heap.size, 4, none⟩ = some (.int .u32 (win : Int)) := by rw [cell_in HVS.out.1]; rfl
  have c5 : w3.cell? ⟨w.heap.size, 5, none⟩ = some (.int .u32 (ppid : Int)) := by rw [cell_in HVS.out.1]; rfl
  have c6 : w3.cell? ⟨w.heap.size, 6, none⟩ = some (.int .u16 (st : Int)) := by rw [cell_in HVS.out.1]; rfl
  have c7 : w3.cell? ⟨w.heap.size, 7, none⟩ = some (.int .u16 (ssn : Int)) := by rw [cell_in HVS.out.1]; rfl
  have c8 : w3.cell? ⟨w.heap.size, 8, none⟩ = some (.int .u16 (outs : Int)) := by rw [cell_in HVS.out.1]; rfl
  have c9 : w3.cell? ⟨w.heap.size, 9, none⟩ = some (.int .u16 (ins : Int)) := by rw [cell_in HVS.out.1]; rfl
  have c10 : w3.cell? ⟨w.heap.size, 10, none⟩ = some (.slice A1 gaps.length k1) := by rw [cell_in HVS.out.1]; rfl
  have c11 : w3.cell? ⟨w.heap.size, 11, none⟩ = some (.slice A2 dups.length k2) := by rw [cell_in HVS.out.1]; rfl
  have c12 : w3.cell? ⟨w.heap.size, 12, none⟩ = some (.slice A3 items.length k3) := by rw [cell_in HVS.out.1]; rfl
  have c13 : w3.cell? ⟨w.heap.size, 13, none⟩ = some (.string text) := by rw [cell_in HVS.out.1]; rfl
  go_wp2_with fail
  refine (HFI.out _ (HP.out.below HVS.out.2)).mono ?_
  rintro _ w4 ⟨rfl, hb4⟩
  replace HVS := Lib.hid (HVS.out.later hb4)
  clear hb4 c0 c1 c2 c3 c4 c5 c6 c7 c8 c9 c10 c11 c12 c13 HFI
  by_cases he : e0 = 0
  · subst he
    cases q1 <;> cases q2
    all_goals
      go_wp2_with fail
      go_ret
      exact ⟨by rw [HR.out]; rfl, HVS.out.2⟩
  · have he' : ¬ (e0 : Int) = 0 := by omega
    have he2 : ((e0 : Int) == 0) = false := beq_eq_false_iff_ne.2 he'
    cases q1 <;> cases q2
    all_goals
      go_wp2_with fail
      go_ret
      exact ⟨by rw [HR.out, decide_eq_false he]; rfl, HVS.out.2⟩
end Go.Proofs.YtlbaockipeojhaaGreat
end
section
namespace Go.Proofs.YtlbaockipeojhaaGreat
open Go.RowKit
set_option linter.unusedVariables false
set_option linter.unusedSimpArgs false
set_option maxRecDepth 100000

theorem rvalue_any (c : Ck) (hw : WfC c) (hf : formedB c = true) (hb : (buildB c.items).2 = 0) (g d it : Value) (w : World) (hp : Parts w c g d it) :
    Calls Tryz.prog 54 #[.agg (cellsC c g d it)] w fun e w' => e = .returned (.string ⟨(valueL c).toArray⟩) ∧ Below w.heap.size w w' := by
  obtain ⟨l1, l2, l3, l4⟩ := formed_lacks hf
  have ht : c.text.size ≤ 1000 := by
    have p := (formed_parts hf).2.2.1.2
    have := (form_caps c.type).1
    omega
  obtain ⟨ty, fl, tsn, tag, win, ppid, st, ssn, outs, ins, gaps, dups, items, text⟩ := c
  dsimp only at l1 l2 l3 l4 ht hb
  by_cases t0 : ty = 0
  · subst t0
    exact rvalue_0 fl tsn tag win ppid st ssn outs ins gaps dups items text hw.tsn hw.tag hw.window hw.ppid hw.stream hw.ssn hw.outs hw.ins (l1 rfl) ht hb g d it w hp _ rfl
  by_cases t1 : ty = 1
  · subst t1
    exact rvalue_1 fl tsn tag win ppid st ssn outs ins gaps dups items text hw.tsn hw.tag hw.window hw.ppid hw.stream hw.ssn hw.outs hw.ins (l2 rfl) hb g d it w hp _ rfl
  by_cases t2 : ty = 2
  · subst t2
    exact rvalue_2 fl tsn tag win ppid st ssn outs ins gaps dups items text hw.tsn hw.tag hw.window hw.ppid hw.stream hw.ssn hw.outs hw.ins (l2 rfl) hb g d it w hp _ rfl
  by_cases t3 : ty = 3
  · subst t3
    obtain ⟨m1, m2, m3, m4⟩ := l4 rfl
    exact rvalue_3 fl tsn tag win ppid st ssn outs ins gaps dups items text hw.tsn hw.tag hw.window hw.ppid hw.stream hw.ssn hw.outs hw.ins (l1 m1) m2 m3 m4 hw.gaps hw.dups hb g d it w hp _ rfl
  by_cases t7 : ty = 7
  · subst t7
    have p := (formed_parts hf).2.2.1.2
    exact rvalue_7 fl tsn tag win ppid st ssn outs ins gaps dups items text hw.tsn hw.tag hw.window hw.ppid hw.stream hw.ssn hw.outs hw.ins (l1 rfl) (empty_of p) hb g d it w hp _ rfl
  exact rvalue_d ty fl tsn tag win ppid st ssn outs ins gaps dups items text hw.tsn hw.tag hw.window hw.ppid hw.stream hw.ssn hw.outs hw.ins t0 t1 t2 t3 t7 ht hb g d it w hp _ rfl
theorem value_le (c : Ck) (hf : formedB c = true) (hb : (buildB c.items).2 = 0) : (valueL c).length ≤ 10000 := by
  have p := (formed_parts hf).2.2.1.2
  have p5 := (formed_parts hf).2.2.2.2.1
  have p6 := (formed_parts hf).2.2.2.2.2.1
  obtain ⟨f1, f2⟩ := form_caps c.type
  have hr := (build_ok hb).2.1
  have hi := itemsL_length c.items
  have hn : (numsL c).length ≤ 16 := by
    unfold numsL
    repeat' split
    all_goals simp [be32_length, be16_length]
  have ht := size_list c.text
  unfold valueL repL
  split
  · simp only [List.length_append, be16_length, gapsL_length, dupsL_length]
    omega
  · simp only [List.length_append, List.length_nil]
    omega
theorem two_conv (W : World) (X a b : Nat) (t : TypeId) (ha : a < 256) (hb : b < 256) (h : W.heap[X]? = some (.cells #[.int .u8 (a : Int), .int .u8 (b : Int)] t (0, 0))) :
    (convert 47 9 (.slice (some ⟨X, 0, none⟩) 2 2)).run Tryz.prog W = .ok (.string ⟨#[UInt8.ofNat a, UInt8.ofNat b]⟩) W := by
  have e1 : (UInt8.ofNat a).toNat = a := UInt8.toNat_ofNat_of_lt' ha
  have e2 : (UInt8.ofNat b).toNat = b := UInt8.toNat_ofNat_of_lt' hb
  refine text_of W X 0 2 [UInt8.ofNat a, UInt8.ofNat b] fun j u hu => ?_
  rw [Nat.zero_add, cell_in h]
  match j, hu with
  | 0, hu => cases hu; rw [e1]; rfl
  | 1, hu => cases hu; rw [e2]; rfl
  | j + 2, hu => simp at hu
theorem bytes_put (c : Ck) : (⟨#[UInt8.ofNat c.type.toNat, UInt8.ofNat c.flags.toNat]⟩ : ByteArray) ++ twoB (4 + (valueL c).length) ++ ⟨(valueL c).toArray⟩ ++ zerosB (padN (4 + (valueL c).length)) = ⟨(bytesC c).toArray⟩ := by
  apply bytes_ext
  simp only [app_list, list_toB, twoB, zerosB, bytesC]
theorem build_many {c : Ck} (h1 : (buildB c.items).2 = 0) (h2 : formedB c = true) : (1400 < (⟨(bytesC c).toArray⟩ : ByteArray).size → buildC c = (noB, 4)) ∧ (¬ 1400 < (⟨(bytesC c).toArray⟩ : ByteArray).size → buildC c = (⟨(bytesC c).toArray⟩, 0)) := by
  have e := bytesC_length c
  have f := padN_four (4 + (valueL c).length)
  have g := padN_lt (4 + (valueL c).length)
  rw [toB_size, e]
  unfold buildC
  rw [if_neg (by rw [h2]; simp [h1])]
  constructor
  · intro h; rw [if_pos (by omega)]
  · intro h; rw [if_neg (by omega)]
set_option maxHeartbeats 8000000 in
theorem rkbuild_any (c : Ck) (hw : WfC c) (h1 : c.gaps.length ≤ 100000) (h2 : c.dups.length ≤ 100000) (h3 : c.items.length ≤ 100000) (hs : ∀ x ∈ c.items, x.2.size ≤ 1000000) (g d it : Value) (w : World) (hp : Parts w c g d it) :
    Calls Tryz.prog 29 #[.agg (cellsC c g d it)] w fun e w' => e = .returned (.tuple #[.string (buildC c).1, .int .i64 ((buildC c).2 : Nat)]) ∧ Below w.heap.size w w' := by
  have HSH := Lib.hid (fun W hq => rshaped_any c hw h1 h2 h3 hs g d it W hq)
  have HP := Lib.hid hp
  have HB0 := Lib.hid ((Below.refl w.heap.size w).alloc (Nat.le_refl _) (.cells (cellsC c g d it) 74))
  by_cases hq : (formedB c && decide ((buildB c.items).2 = 0)) = true
  case neg =>
    rw [Bool.not_eq_true] at hq
    rw [hq] at HSH
    have hR : buildC c = (noB, 1) := by
      unfold buildC
      rw [if_pos]
      rcases Bool.and_eq_false_iff.1 hq with h | h
      · exact .inr h
      · exact .inl (of_decide_eq_false h)
    rw [hR]
    clear hR hq hw h1 h2 h3 hs
    obtain ⟨⟨A1, k1, rfl⟩, ⟨A2, k2, rfl⟩, ⟨A3, k3, rfl⟩⟩ := hp.slices
    clear hp
    obtain ⟨ty, fl, tsn, tag, win, ppid, st, ssn, outs, ins, gaps, dups, items, text⟩ := c
    dsimp only [cellsC] at HSH HB0 ⊢
    go_enter Tryz.func29, Tryz.ntmps29
    go_wp2_with fail
    refine (HSH.out _ (HP.out.below HB0.out)).mono ?_
    rintro _ w1 ⟨rfl, hb1⟩
    replace HB0 := Lib.hid (HB0.out.trans (hb1.mono HB0.out.size))
    clear hb1
    go_wp2_with fail
    go_ret2
    exact ⟨rfl, HB0.out⟩
  rw [hq] at HSH
  obtain ⟨hf, hb⟩ := Bool.and_eq_true_iff.1 hq
  have hb := of_decide_eq_true hb
  have hvl := value_le c hf hb
  have HVA := Lib.hid (fun W hq => rvalue_any c hw hf hb g d it W hq)
  obtain ⟨m1, m2⟩ := build_many hb hf
  have hput := bytes_put c
  have hvs : (⟨(valueL c).toArray⟩ : ByteArray).size = (valueL c).length := toB_size _
  obtain ⟨⟨p1, p2⟩, ⟨p3, p4⟩, _⟩ := formed_parts hf
  have p5 := flags_le c.type
  have H2 := Lib.hid (fun W => rtwo_any (4 + (valueL c).length) (by omega) W)
  have HPD := Lib.hid (fun W => rpad_any ((4 + (valueL c).length : Nat) : Int) (by omega) (by omega) W)
  rw [padI_nat] at HPD
  have hpl := padN_lt (4 + (valueL c).length)
  have hnc := nought_cut (padN (4 + (valueL c).length)) (by omega)
  have hzs := Nat.le_of_eq (zerosB_size (padN (4 + (valueL c).length)))
  have hts := Nat.le_of_eq (twoB_size (4 + (valueL c).length))
  have hds : (⟨#[UInt8.ofNat c.type.toNat, UInt8.ofNat c.flags.toNat]⟩ : ByteArray).size ≤ 2 := Nat.le_of_eq rfl
  have HCV := Lib.hid (fun W X h => two_conv W X c.type.toNat c.flags.toNat 5 (by omega) (by omega) h)
  have hnn : ((4 + (valueL c).length : Nat) : Int) = ((⟨(valueL c).toArray⟩ : ByteArray).size : Int) + 4 := by rw [hvs]; omega
  rw [hnn] at H2 HPD
  clear hnn
  generalize padN (4 + (valueL c).length) = p at *
  have e1 : (p : Int) ≤ 3 := by omega
  have e2 : (0 : Int) ≤ (p : Int) := by omega
  generalize zerosB p = zp at *
  generalize twoB (4 + (valueL c).length) = tn at *
  generalize 4 + (valueL c).length = n at *
  have hv : ∃ v, v = (⟨(valueL c).toArray⟩ : ByteArray) := ⟨_, rfl⟩
  have hvz : (⟨(valueL c).toArray⟩ : ByteArray).size ≤ 10000 := by omega
  clear hv
  generalize (⟨(valueL c).toArray⟩ : ByteArray) = v at *
  generalize (⟨#[UInt8.ofNat c.type.toNat, UInt8.ofNat c.flags.toNat]⟩ : ByteArray) = hd at *
  generalize buildC c = R at *
  rw [← hput] at m1 m2
  have HBC1 := Lib.hid m1
  have HBC2 := Lib.hid m2
  have pa : c.type ≤ 255 := p2
  have pb : c.flags ≤ 255 := by omega
  clear hput m1 m2 hvs hq hf hb hvl hw h1 h2 h3 hs p5 p2 p4
  obtain ⟨⟨A1, k1, rfl⟩, ⟨A2, k2, rfl⟩, ⟨A3, k3, rfl⟩⟩ := hp.slices
  clear hp
  obtain ⟨ty, fl, tsn, tag, win, ppid, st, ssn, outs, ins, gaps, dups, items, text⟩ := c
  dsimp only at p1 p3 pa pb
  obtain ⟨a, rfl⟩ := Int.eq_ofNat_of_zero_le p1
  obtain ⟨b, rfl⟩ := Int.eq_ofNat_of_zero_le p3
  simp only [Int.toNat_natCast] at HCV
  have u1 : IntKind.u8.wrap (a : Int) = (a : Int) := by rw [wrap_u8_mod]; omega
  have u2 : IntKind.u8.wrap (b : Int) = (b : Int) := by rw [wrap_u8_mod]; omega
  have q1 : ¬ 9223372036854775807 < hd.size + tn.size := by omega
  have q2 : ¬ 9223372036854775807 < hd.size + tn.size + v.size := by omega
  have q3 : ¬ 9223372036854775807 < hd.size + tn.size + v.size + zp.size := by omega
  clear p1 p3
  dsimp only [cellsC] at HSH HVA HB0 ⊢
  go_enter Tryz.func29, Tryz.ntmps29
  go_wp2_with fail
  refine (HSH.out _ (HP.out.below HB0.out)).mono ?_
  rintro _ w1 ⟨rfl, hb1⟩
  have HX := Lib.hid ((hb1.block _ (by rw [World.size_alloc]; omega)).trans (heap_alloc_new w (.cells #[.int .i64 (a : Int), .int .i64 (b : Int), .int .u32 (tsn : Int), .int .u32 (tag : Int), .int .u32 (win : Int), .int .u32 (ppid : Int), .int .u16 (st : Int), .int .u16 (ssn : Int), .int .u16 (outs : Int), .int .u16 (ins : Int), .slice A1 gaps.length k1, .slice A2 dups.length k2, .slice A3 items.length k3, .string text] 74)))
  have HVS := Lib.hid (show ValS w #[.int .i64 (a : Int), .int .i64 (b : Int), .int .u32 (tsn : Int), .int .u32 (tag : Int), .int .u32 (win : Int), .int .u32 (ppid : Int), .int .u16 (st : Int), .int .u16 (ssn : Int), .int .u16 (outs : Int), .int .u16 (ins : Int), .slice A1 gaps.length k1, .slice A2 dups.length k2, .slice A3 items.length k3, .string text] w1 from ⟨HX.out, HB0.out.trans (hb1.mono (by rw [World.size_alloc]; omega))⟩)
  clear hb1 HX HB0 HSH
  have c0 : w1.cell? ⟨w.heap.size, 0, none⟩ = some (.int .i64 (a : Int)) := by rw [cell_in HVS.out.1]; rfl
  have c1 : w1.cell? ⟨w.heap.size, 1, none⟩ = some (.int .i64 (b : Int)) := by rw [cell_in HVS.out.1]; rfl
  have c2 : w1.cell? ⟨w.heap.size, 2, none⟩ = some (.int .u32 (tsn : Int)) := by rw [cell_in HVS.out.1]; rfl
  have c3 : w1.cell? ⟨w.heap.size, 3, none⟩ = some (.int .u32 (tag : Int)) := by rw [cell_in HVS.out.1]; rfl
  have c4 : w1.cell? ⟨w.heap.size, 4, none⟩ = some (.int .u32 (win : Int)) := by rw [cell_in HVS.out.1]; rfl
  have c5 : w1.cell? ⟨w.heap.size, 5, none⟩ = some (.int .u32 (ppid : Int)) := by rw [cell_in HVS.out.1]; rfl
  have c6 : w1.cell? ⟨w.heap.size, 6, none⟩ = some (.int .u16 (st : Int)) := by rw [cell_in HVS.out.1]; rfl
  have c7 : w1.cell? ⟨w.heap.size, 7, none⟩ = some (.int .u16 (ssn : Int)) := by rw [cell_in HVS.out.1]; rfl
  have c8 : w1.cell? ⟨w.heap.size, 8, none⟩ = some (.int .u16 (outs : Int)) := by rw [cell_in HVS.out.1]; rfl
  have c9 : w1.cell? ⟨w.heap.size, 9, none⟩ = some (.int .u16 (ins : Int)) := by rw [cell_in HVS.out.1]; rfl
  have c10 : w1.cell? ⟨w.heap.size, 10, none⟩ = some (.slice A1 gaps.length k1) := by rw [cell_in HVS.out.1]; rfl
  have c11 : w1.cell? ⟨w.heap.size, 11, none⟩ = some (.slice A2 dups.length k2) := by rw [cell_in HVS.out.1]; rfl
  have c12 : w1.cell? ⟨w.heap.size, 12, none⟩ = some (.slice A3 items.length k3) := by rw [cell_in HVS.out.1]; rfl
  have c13 : w1.cell? ⟨w.heap.size, 13, none⟩ = some (.string text) := by rw [cell_in HVS.out.1]; rfl
  go_wp2_with fail
  refine (HVA.out _ (HP.out.below HVS.out.2)).mono ?_
  rintro _ w2 ⟨rfl, hb2⟩
  replace HVS := Lib.hid (HVS.out.later hb2)
  clear hb2 c0 c1 c2 c3 c4 c5 c6 c7 c8 c9 c10 c11 c12 c13 HVA HP
  go_wp2_with fail
  have HKS := Lib.hid (fun W (h : ValS w #[.int .i64 (a : Int), .int .i64 (b : Int), .int .u32 (tsn : Int), .int .u32 (tag : Int), .int .u32 (win : Int), .int .u32 (ppid : Int), .int .u16 (st : Int), .int .u16 (ssn : Int), .int .u16 (outs : Int), .int .u16 (ins : Int), .slice A1 gaps.length k1, .slice A2 dups.length k2, .slice A3 items.length k3, .string text] W) => show W.cell? ⟨w.heap.size, 0, none⟩ = some (.int .i64 (a : Int)) ∧ W.cell? ⟨w.heap.size, 1, none⟩ = some (.int .i64 (b : Int)) from ⟨by rw [cell_in h.1]; rfl, by rw [cell_in h.1]; rfl⟩)
  replace HVS := Lib.hid HVS.out.drew
  refine wp_region_noPanic ?_
  refine wp_region_held_drew (S := (fun w' => w'.cell? ⟨w.heap.size, 0, none⟩ = some (.int .i64 (a : Int)) ∧ w'.cell? ⟨w.heap.size, 1, none⟩ = some (.int .i64 (b : Int)))) (by kernel_rfl) ?_ (fun hHeld => ?_)
  · exact HKS.out _ HVS.out
  refine k9 0 ?_ (y := ?_) (h := ?_)
  rotate_left 1
  · (intro w' hSw; (try dsimp only at hSw); go_simp; try with_reducible rfl)
  try simp only [Act.put, p9a, p9z, p9s]
  refine k9 1 ?_ (y := ?_) (h := ?_)
  rotate_left 1
  · (intro w' hSw; (try dsimp only at hSw); go_simp; try with_reducible rfl)
  try simp only [Act.put, p9a, p9z, p9s]
  refine k9 2 ?_ (y := ?_) (h := ?_)
  rotate_left 1
  · (intro w' hSw; (try dsimp only at hSw); go_simp; try with_reducible rfl)
  try simp only [Act.put, p9a, p9z, p9s]
  refine k9 3 ?_ (y := ?_) (h := ?_)
  rotate_left 1
  · (intro w' hSw; (try dsimp only at hSw); go_simp; try with_reducible rfl)
  try simp only [Act.put, p9a, p9z, p9s]
  refine k9 4 ?_ (y := ?_) (h := ?_)
  rotate_left 1
  · (intro w' hSw; (try dsimp only at hSw); go_simp; try with_reducible rfl)
  try simp only [Act.put, p9a, p9z, p9s]
  refine k9 5 ?_ (y := ?_) (h := ?_)
  rotate_left 1
  · (intro w' hSw; (try dsimp only at hSw); go_simp; try with_reducible rfl)
  try simp only [Act.put, p9a, p9z, p9s]
  refine k9 8 ?_ (y := ?_) (h := ?_)
  rotate_left 1
  · (intro w' hSw; (try dsimp only at hSw); go_simp; try with_reducible rfl)
  try simp only [Act.put, p9a, p9z, p9s]
  refine k9 11 ?_ (y := ?_) (h := ?_)
  rotate_left 1
  · (intro w' hSw; (try dsimp only at hSw); go_simp; try with_reducible rfl)
  try simp only [Act.put, p9a, p9z, p9s]
  refine k9 13 ?_ (y := ?_) (h := ?_)
  rotate_left 1
  · (intro w' hSw; (try dsimp only at hSw); go_simp; try with_reducible rfl)
  try simp only [Act.put, p9a, p9z, p9s]
  refine wpAnyH_ready (rs := [6, 9]) (by kernel_rfl) (by simp) ?_
  refine AllReadyH.cons (by simp only [q9a, q9s, q9z]; rfl) (fun K hK => ?_) ?_
  · skip
    go_simp
    have HBX := Lib.hid (show ((w2.alloc (.cells #[.int .u8 (a : Int), .int .u8 (b : Int)] 5)).drew).heap[w2.heap.size]? = some (.cells #[.int .u8 (a : Int), .int .u8 (b : Int)] 5 (0, 0)) from heap_alloc_new _ _)
    replace HVS := Lib.hid (show ValS w #[.int .i64 (a : Int), .int .i64 (b : Int), .int .u32 (tsn : Int), .int .u32 (tag : Int), .int .u32 (win : Int), .int .u32 (ppid : Int), .int .u16 (st : Int), .int .u16 (ssn : Int), .int .u16 (outs : Int), .int .u16 (ins : Int), .slice A1 gaps.length k1, .slice A2 dups.length k2, .slice A3 items.length k3, .string text] ((w2.alloc (.cells #[.int .u8 (a : Int), .int .u8 (b : Int)] 5)).drew) from HVS.out.later ((Below.refl _ (w2.drew)).alloc (Nat.le_refl _) (.cells #[.int .u8 (a : Int), .int .u8 (b : Int)] 5)))
    refine hK.out _ _ ?_ (fun hHeld => ?_)
    · exact HKS.out _ HVS.out
    clear hK K
    try simp only [Act.put, p9a, p9z, p9s]
    refine wpAnyH_ready (rs := [7, 9]) (by kernel_rfl) (by simp) ?_
    refine AllReadyH.cons (by simp only [q9a, q9s, q9z]; rfl) (fun K hK => ?_) ?_
    · skip
      have hcv := HCV.out ((w2.alloc (.cells #[.int .u8 (a : Int), .int .u8 (b : Int)] 5)).drew) (w2.heap.size) HBX.out
      go_simp
      clear hcv
      refine hK.out _ _ ?_ (fun hHeld => ?_)
      · exact HKS.out _ HVS.out
      clear hK K
      try simp only [Act.put, p9a, p9z, p9s]
      refine wpAnyH_ready (rs := [9]) (by kernel_rfl) (by simp) ?_
      refine AllReadyH.cons (by simp only [q9a, q9s, q9z]; rfl) (fun K hK => ?_) AllReadyH.nil
      go_simp
      refine (H2.out _).mono ?_
      rintro _ w9 ⟨rfl, hb9⟩
      replace HVS := Lib.hid (HVS.out.later hb9)
      replace HBX := Lib.hid ((hb9.block _ (Array.getElem?_eq_some_iff.1 HBX.out).1).trans HBX.out)
      clear hb9
      go_wp2_with fail
      refine hK.out _ _ ?_ (fun hHeld => ?_)
      · exact HKS.out _ HVS.out
      clear hK K
      try simp only [Act.put, p9a, p9z, p9s]
      refine k9 10 ?_ (y := ?_) (h := ?_)
      rotate_left 1
      · (intro w' hSw; (try dsimp only at hSw); go_simp; try with_reducible rfl)
      try simp only [Act.put, p9a, p9z, p9s]
      refine k9 12 ?_ (y := ?_) (h := ?_)
      rotate_left 1
      · (intro w' hSw; (try dsimp only at hSw); go_simp; try with_reducible rfl)
      try simp only [Act.put, p9a, p9z, p9s]
      refine wpAnyH_ready (rs := [14]) (by kernel_rfl) (by simp) ?_
      refine AllReadyH.cons (by simp only [q9a, q9s, q9z]; rfl) (fun K hK => ?_) AllReadyH.nil
      go_simp
      refine (HPD.out _).mono ?_
      rintro _ w9 ⟨rfl, rfl⟩
      go_wp2_with fail
      refine hK.out _ _ ?_ (fun hHeld => ?_)
      · exact HKS.out _ HVS.out
      clear hK K
      try simp only [Act.put, p9a, p9z, p9s]
      refine k9 15 ?_ (y := ?_) (h := ?_)
      rotate_left 1
      · (intro w' hSw; (try dsimp only at hSw); go_simp; try with_reducible rfl)
      try simp only [Act.put, p9a, p9z, p9s]
      refine k9 16 ?_ (y := ?_) (h := ?_)
      rotate_left 1
      · (intro w' hSw; (try dsimp only at hSw); go_simp; try with_reducible rfl)
      try simp only [Act.put, p9a, p9z, p9s]
      refine k9 17 ?_ (y := ?_) (h := ?_)
      rotate_left 1
      · (intro w' hSw; (try dsimp only at hSw); go_simp; try with_reducible rfl)
      try simp only [Act.put, p9a, p9z, p9s]
      refine wpAnyH_done (by kernel_rfl) ?_ _
      refine NoPanic.normal ?_
      clear hHeld
      generalize hd ++ tn ++ v ++ zp = s at *
      clear H2 HPD HCV
      by_cases hbig : 1400 < s.size
      · obtain rfl := HBC1.out hbig
        have h3 : (1400 : Int) < (s.size : Int) := by omega
        clear hbig
        go_wp2_with fail
        go_ret2
        exact ⟨rfl, HVS.out.2⟩
      · obtain rfl := HBC2.out hbig
        have h3 : ¬ (1400 : Int) < (s.size : Int) := by omega
        clear hbig
        go_wp2_with fail
        go_ret2
        exact ⟨rfl, HVS.out.2⟩
    refine AllReadyH.cons (by simp only [q9a, q9s, q9z]; rfl) (fun K hK => ?_) AllReadyH.nil
    go_simp
    refine (H2.out _).mono ?_
    rintro _ w9 ⟨rfl, hb9⟩
    replace HVS := Lib.hid (HVS.out.later hb9)
    replace HBX := Lib.hid ((hb9.block _ (Array.getElem?_eq_some_iff.1 HBX.out).1).trans HBX.out)
    clear hb9
    go_wp2_with fail
    refine hK.out _ _ ?_ (fun hHeld => ?_)
    · exact HKS.out _ HVS.out
    clear hK K
    try simp only [Act.put, p9a, p9z, p9s]
    refine wpAnyH_ready (rs := [7, 14]) (by kernel_rfl) (by simp) ?_
    refine AllReadyH.cons (by simp only [q9a, q9s, q9z]; rfl) (fun K hK => ?_) ?_
    · skip
      have hcv := HCV.out (w9) (w2.heap.size) HBX.out
      go_simp
      clear hcv
      refine hK.out _ _ ?_ (fun hHeld => ?_)
      · exact HKS.out _ HVS.out
      clear hK K
      try simp only [Act.put, p9a, p9z, p9s]
      refine k9 10 ?_ (y := ?_) (h := ?_)
      rotate_left 1
      · (intro w' hSw; (try dsimp only at hSw); go_simp; try with_reducible rfl)
      try simp only [Act.put, p9a, p9z, p9s]
      refine k9 12 ?_ (y := ?_) (h := ?_)
      rotate_left 1
      · (intro w' hSw; (try dsimp only at hSw); go_simp; try with_reducible rfl)
      try simp only [Act.put, p9a, p9z, p9s]
      refine wpAnyH_ready (rs := [14]) (by kernel_rfl) (by simp) ?_
      refine AllReadyH.cons (by simp only [q9a, q9s, q9z]; rfl) (fun K hK => ?_) AllReadyH.nil
      go_simp
      refine (HPD.out _).mono ?_
      rintro _ w9 ⟨rfl, rfl⟩
      go_wp2_with fail
      refine hK.out _ _ ?_ (fun hHeld => ?_)
      · exact HKS.out _ HVS.out
      clear hK K
      try simp only [Act.put, p9a, p9z, p9s]
      refine k9 15 ?_ (y := ?_) (h := ?_)
      rotate_left 1
      · (intro w' hSw; (try dsimp only at hSw); go_simp; try with_reducible rfl)
      try simp only [Act.put, p9a, p9z, p9s]
      refine k9 16 ?_ (y := ?_) (h := ?_)
      rotate_left 1
      · (intro w' hSw; (try dsimp only at hSw); go_simp; try with_reducible rfl)
      try simp only [Act.put, p9a, p9z, p9s]
      refine k9 17 ?_ (y := ?_) (h := ?_)
      rotate_left 1
      · (intro w' hSw; (try dsimp only at hSw); go_simp; try with_reducible rfl)
      try simp only [Act.put, p9a, p9z, p9s]
      refine wpAnyH_done (by kernel_rfl) ?_ _
      refine NoPanic.normal ?_
      clear hHeld
      generalize hd ++ tn ++ v ++ zp = s at *
      clear H2 HPD HCV
      by_cases hbig : 1400 < s.size
      · obtain rfl := HBC1.out hbig
        have h3 : (1400 : Int) < (s.size : Int) := by omega
        clear hbig
        go_wp2_with fail
        go_ret2
        exact ⟨rfl, HVS.out.2⟩
      · obtain rfl := HBC2.out hbig
        have h3 : ¬ (1400 : Int) < (s.size : Int) := by omega
        clear hbig
        go_wp2_with fail
        go_ret2
        exact ⟨rfl, HVS.out.2⟩
    refine AllReadyH.cons (by simp only [q9a, q9s, q9z]; rfl) (fun K hK => ?_) AllReadyH.nil
    go_simp
    refine (HPD.out _).mono ?_
    rintro _ w9 ⟨rfl, rfl⟩
    go_wp2_with fail
    refine hK.out _ _ ?_ (fun hHeld => ?_)
    · exact HKS.out _ HVS.out
    clear hK K
    try simp only [Act.put, p9a, p9z, p9s]
    refine k9 15 ?_ (y := ?_) (h := ?_)
    rotate_left 1
    · (intro w' hSw; (try dsimp only at hSw); go_simp; try with_reducible rfl)
    try simp only [Act.put, p9a, p9z, p9s]
    refine wpAnyH_ready (rs := [7]) (by kernel_rfl) (by simp) ?_
    refine AllReadyH.cons (by simp only [q9a, q9s, q9z]; rfl) (fun K hK => ?_) AllReadyH.nil
    have hcv := HCV.out (w9) (w2.heap.size) HBX.out
    go_simp
    clear hcv
    refine hK.out _ _ ?_ (fun hHeld => ?_)
    · exact HKS.out _ HVS.out
    clear hK K
    try simp only [Act.put, p9a, p9z, p9s]
    refine k9 10 ?_ (y := ?_) (h := ?_)
    rotate_left 1
    · (intro w' hSw; (try dsimp only at hSw); go_simp; try with_reducible rfl)
    try simp only [Act.put, p9a, p9z, p9s]
    refine k9 12 ?_ (y := ?_) (h := ?_)
    rotate_left 1
    · (intro w' hSw; (try dsimp only at hSw); go_simp; try with_reducible rfl)
    try simp only [Act.put, p9a, p9z, p9s]
    refine k9 16 ?_ (y := ?_) (h := ?_)
    rotate_left 1
    · (intro w' hSw; (try dsimp only at hSw); go_simp; try with_reducible rfl)
    try simp only [Act.put, p9a, p9z, p9s]
    refine k9 17 ?_ (y := ?_) (h := ?_)
    rotate_left 1
    · (intro w' hSw; (try dsimp only at hSw); go_simp; try with_reducible rfl)
    try simp only [Act.put, p9a, p9z, p9s]
    refine wpAnyH_done (by kernel_rfl) ?_ _
    refine NoPanic.normal ?_
    clear hHeld
    generalize hd ++ tn ++ v ++ zp = s at *
    clear H2 HPD HCV
    by_cases hbig : 1400 < s.size
    · obtain rfl := HBC1.out hbig
      have h3 : (1400 : Int) < (s.size : Int) := by omega
      clear hbig
      go_wp2_with fail
      go_ret2
      exact ⟨rfl, HVS.out.2⟩
    · obtain rfl := HBC2.out hbig
      have h3 : ¬ (1400 : Int) < (s.size : Int) := by omega
      clear hbig
      go_wp2_with fail
      go_ret2
      exact ⟨rfl, HVS.out.2⟩
  refine AllReadyH.cons (by simp only [q9a, q9s, q9z]; rfl) (fun K hK => ?_) AllReadyH.nil
  go_simp
  refine (H2.out _).mono ?_
  rintro _ w9 ⟨rfl, hb9⟩
  replace HVS := Lib.hid (HVS.out.later hb9)
  clear hb9
  go_wp2_with fail
  refine hK.out _ _ ?_ (fun hHeld => ?_)
  · exact HKS.out _ HVS.out
  clear hK K
  try simp only [Act.put, p9a, p9z, p9s]
  refine wpAnyH_ready (rs := [6, 14]) (by kernel_rfl) (by simp) ?_
  refine AllReadyH.cons (by simp only [q9a, q9s, q9z]; rfl) (fun K hK => ?_) ?_
  · skip
    go_simp
    have HBX := Lib.hid (show (w9.alloc (.cells #[.int .u8 (a : Int), .int .u8 (b : Int)] 5)).heap[w9.heap.size]? = some (.cells #[.int .u8 (a : Int), .int .u8 (b : Int)] 5 (0, 0)) from heap_alloc_new _ _)
    replace HVS := Lib.hid (show ValS w #[.int .i64 (a : Int), .int .i64 (b : Int), .int .u32 (tsn : Int), .int .u32 (tag : Int), .int .u32 (win : Int), .int .u32 (ppid : Int), .int .u16 (st : Int), .int .u16 (ssn : Int), .int .u16 (outs : Int), .int .u16 (ins : Int), .slice A1 gaps.length k1, .slice A2 dups.length k2, .slice A3 items.length k3, .string text] (w9.alloc (.cells #[.int .u8 (a : Int), .int .u8 (b : Int)] 5)) from HVS.out.later ((Below.refl _ (w9)).alloc (Nat.le_refl _) (.cells #[.int .u8 (a : Int), .int .u8 (b : Int)] 5)))
    refine hK.out _ _ ?_ (fun hHeld => ?_)
    · exact HKS.out _ HVS.out
    clear hK K
    try simp only [Act.put, p9a, p9z, p9s]
    refine wpAnyH_ready (rs := [7, 14]) (by kernel_rfl) (by simp) ?_
    refine AllReadyH.cons (by simp only [q9a, q9s, q9z]; rfl) (fun K hK => ?_) ?_
    · skip
      have hcv := HCV.out (w9.alloc (.cells #[.int .u8 (a : Int), .int .u8 (b : Int)] 5)) (w9.heap.size) HBX.out
      go_simp
      clear hcv
      refine hK.out _ _ ?_ (fun hHeld => ?_)
      · exact HKS.out _ HVS.out
      clear hK K
      try simp only [Act.put, p9a, p9z, p9s]
      refine k9 10 ?_ (y := ?_) (h := ?_)
      rotate_left 1
      · (intro w' hSw; (try dsimp only at hSw); go_simp; try with_reducible rfl)
      try simp only [Act.put, p9a, p9z, p9s]
      refine k9 12 ?_ (y := ?_) (h := ?_)
      rotate_left 1
      · (intro w' hSw; (try dsimp only at hSw); go_simp; try with_reducible rfl)
      try simp only [Act.put, p9a, p9z, p9s]
      refine wpAnyH_ready (rs := [14]) (by kernel_rfl) (by simp) ?_
      refine AllReadyH.cons (by simp only [q9a, q9s, q9z]; rfl) (fun K hK => ?_) AllReadyH.nil
      go_simp
      refine (HPD.out _).mono ?_
      rintro _ w9 ⟨rfl, rfl⟩
      go_wp2_with fail
      refine hK.out _ _ ?_ (fun hHeld => ?_)
      · exact HKS.out _ HVS.out
      clear hK K
      try simp only [Act.put, p9a, p9z, p9s]
      refine k9 15 ?_ (y := ?_) (h := ?_)
      rotate_left 1
      · (intro w' hSw; (try dsimp only at hSw); go_simp; try with_reducible rfl)
      try simp only [Act.put, p9a, p9z, p9s]
      refine k9 16 ?_ (y := ?_) (h := ?_)
      rotate_left 1
      · (intro w' hSw; (try dsimp only at hSw); go_simp; try with_reducible rfl)
      try simp only [Act.put, p9a, p9z, p9s]
      refine k9 17 ?_ (y := ?_) (h := ?_)
      rotate_left 1
      · (intro w' hSw; (try dsimp only at hSw); go_simp; try with_reducible rfl)
      try simp only [Act.put, p9a, p9z, p9s]
      refine wpAnyH_done (by kernel_rfl) ?_ _
      refine NoPanic.normal ?_
      clear hHeld
      generalize hd ++ tn ++ v ++ zp = s at *
      clear H2 HPD HCV
      by_cases hbig : 1400 < s.size
      · obtain rfl := HBC1.out hbig
        have h3 : (1400 : Int) < (s.size : Int) := by omega
        clear hbig
        go_wp2_with fail
        go_ret2
        exact ⟨rfl, HVS.out.2⟩
      · obtain rfl := HBC2.out hbig
        have h3 : ¬ (1400 : Int) < (s.size : Int) := by omega
        clear hbig
        go_wp2_with fail
        go_ret2
        exact ⟨rfl, HVS.out.2⟩
    refine AllReadyH.cons (by simp only [q9a, q9s, q9z]; rfl) (fun K hK => ?_) AllReadyH.nil
    go_simp
    refine (HPD.out _).mono ?_
    rintro _ w9 ⟨rfl, rfl⟩
    go_wp2_with fail
    refine hK.out _ _ ?_ (fun hHeld => ?_)
    · exact HKS.out _ HVS.out
    clear hK K
    try simp only [Act.put, p9a, p9z, p9s]
    refine k9 15 ?_ (y := ?_) (h := ?_)
    rotate_left 1
    · (intro w' hSw; (try dsimp only at hSw); go_simp; try with_reducible rfl)
    try simp only [Act.put, p9a, p9z, p9s]
    refine wpAnyH_ready (rs := [7]) (by kernel_rfl) (by simp) ?_
    refine AllReadyH.cons (by simp only [q9a, q9s, q9z]; rfl) (fun K hK => ?_) AllReadyH.nil
    have hcv := HCV.out (w9.alloc (.cells #[.int .u8 (a : Int), .int .u8 (b : Int)] 5)) (w9.heap.size) HBX.out
    go_simp
    clear hcv
    refine hK.out _ _ ?_ (fun hHeld => ?_)
    · exact HKS.out _ HVS.out
    clear hK K
    try simp only [Act.put, p9a, p9z, p9s]
    refine k9 10 ?_ (y := ?_) (h := ?_)
    rotate_left 1
    · (intro w' hSw; (try dsimp only at hSw); go_simp; try with_reducible rfl)
    try simp only [Act.put, p9a, p9z, p9s]
    refine k9 12 ?_ (y := ?_) (h := ?_)
    rotate_left 1
    · (intro w' hSw; (try dsimp only at hSw); go_simp; try with_reducible rfl)
    try simp only [Act.put, p9a, p9z, p9s]
    refine k9 16 ?_ (y := ?_) (h := ?_)
    rotate_left 1
    · (intro w' hSw; (try dsimp only at hSw); go_simp; try with_reducible rfl)
    try simp only [Act.put, p9a, p9z, p9s]
    refine k9 17 ?_ (y := ?_) (h := ?_)
    rotate_left 1
    · (intro w' hSw; (try dsimp only at hSw); go_simp; try with_reducible rfl)
    try simp only [Act.put, p9a, p9z, p9s]
    refine wpAnyH_done (by kernel_rfl) ?_ _
    refine NoPanic.normal ?_
    clear hHeld
    generalize hd ++ tn ++ v ++ zp = s at *
    clear H2 HPD HCV
    by_cases hbig : 1400 < s.size
    · obtain rfl := HBC1.out hbig
      have h3 : (1400 : Int) < (s.size : Int) := by omega
      clear hbig
      go_wp2_with fail
      go_ret2
      exact ⟨rfl, HVS.out.2⟩
    · obtain rfl := HBC2.out hbig
      have h3 : ¬ (1400 : Int) < (s.size : Int) := by omega
      clear hbig
      go_wp2_with fail
      go_ret2
      exact ⟨rfl, HVS.out.2⟩
  refine AllReadyH.cons (by simp only [q9a, q9s, q9z]; rfl) (fun K hK => ?_) AllReadyH.nil
  go_simp
  refine (HPD.out _).mono ?_
  rintro _ w9 ⟨rfl, rfl⟩
  go_wp2_with fail
  refine hK.out _ _ ?_ (fun hHeld => ?_)
  · exact HKS.out _ HVS.out
  clear hK K
  try simp only [Act.put, p9a, p9z, p9s]
  refine k9 15 ?_ (y := ?_) (h := ?_)
  rotate_left 1
  · (intro w' hSw; (try dsimp only at hSw); go_simp; try with_reducible rfl)
  try simp only [Act.put, p9a, p9z, p9s]
  refine wpAnyH_ready (rs := [6]) (by kernel_rfl) (by simp) ?_
  refine AllReadyH.cons (by simp only [q9a, q9s, q9z]; rfl) (fun K hK => ?_) AllReadyH.nil
  go_simp
  have HBX := Lib.hid (show (w9.alloc (.cells #[.int .u8 (a : Int), .int .u8 (b : Int)] 5)).heap[w9.heap.size]? = some (.cells #[.int .u8 (a : Int), .int .u8 (b : Int)] 5 (0, 0)) from heap_alloc_new _ _)
  replace HVS := Lib.hid (show ValS w #[.int .i64 (a : Int), .int .i64 (b : Int), .int .u32 (tsn : Int), .int .u32 (tag : Int), .int .u32 (win : Int), .int .u32 (ppid : Int), .int .u16 (st : Int), .int .u16 (ssn : Int), .int .u16 (outs : Int), .int .u16 (ins : Int), .slice A1 gaps.length k1, .slice A2 dups.length k2, .slice A3 items.length k3, .string text] (w9.alloc (.cells #[.int .u8 (a : Int), .int .u8 (b : Int)] 5)) from HVS.out.later ((Below.refl _ (w9)).alloc (Nat.le_refl _) (.cells #[.int .u8 (a : Int), .int .u8 (b : Int)] 5)))
  refine hK.out _ _ ?_ (fun hHeld => ?_)
  · exact HKS.out _ HVS.out
  clear hK K
  try simp only [Act.put, p9a, p9z, p9s]
  refine wpAnyH_ready (rs := [7]) (by kernel_rfl) (by simp) ?_
  refine AllReadyH.cons (by simp only [q9a, q9s, q9z]; rfl) (fun K hK => ?_) AllReadyH.nil
  have hcv := HCV.out (w9.alloc (.cells #[.int .u8 (a : Int), .int .u8 (b : Int)] 5)) (w9.heap.size) HBX.out
  go_simp
  clear hcv
  refine hK.out _ _ ?_ (fun hHeld => ?_)
  · exact HKS.out _ HVS.out
  clear hK K
  try simp only [Act.put, p9a, p9z, p9s]
  refine k9 10 ?_ (y := ?_) (h := ?_)
  rotate_left 1
  · (intro w' hSw; (try dsimp only at hSw); go_simp; try with_reducible rfl)
  try simp only [Act.put, p9a, p9z, p9s]
  refine k9 12 ?_ (y := ?_) (h := ?_)
  rotate_left 1
  · (intro w' hSw; (try dsimp only at hSw); go_simp; try with_reducible rfl)
  try simp only [Act.put, p9a, p9z, p9s]
  refine k9 16 ?_ (y := ?_) (h := ?_)
  rotate_left 1
  · (intro w' hSw; (try dsimp only at hSw); go_simp; try with_reducible rfl)
  try simp only [Act.put, p9a, p9z, p9s]
  refine k9 17 ?_ (y := ?_) (h := ?_)
  rotate_left 1
  · (intro w' hSw; (try dsimp only at hSw); go_simp; try with_reducible rfl)
  try simp only [Act.put, p9a, p9z, p9s]
  refine wpAnyH_done (by kernel_rfl) ?_ _
  refine NoPanic.normal ?_
  clear hHeld
  generalize hd ++ tn ++ v ++ zp = s at *
  clear H2 HPD HCV
  by_cases hbig : 1400 < s.size
  · obtain rfl := HBC1.out hbig
    have h3 : (1400 : Int) < (s.size : Int) := by omega
    clear hbig
    go_wp2_with fail
    go_ret2
    exact ⟨rfl, HVS.out.2⟩
  · obtain rfl := HBC2.out hbig
    have h3 : ¬ (1400 : Int) < (s.size : Int) := by omega
    clear hbig
    go_wp2_with fail
    go_ret2
    exact ⟨rfl, HVS.out.2⟩
set_option maxHeartbeats 2000000 in
theorem rkright_any (c : Ck) (hw : WfC c) (h1 : c.gaps.length ≤ 100000) (h2 : c.dups.length ≤ 100000) (h3 : c.items.length ≤ 100000) (hs : ∀ x ∈ c.items, x.2.size ≤ 1000000) (g d it : Value) (w : World) (hp : Parts w c g d it) :
    Calls Tryz.prog 51 #[.agg (cellsC c g d it)] w fun e w' => e = .returned (.bool (decide ((buildC c).2 = 0))) ∧ Below w.heap.size w w' := by
  have HBD := Lib.hid (fun W hq => rkbuild_any c hw h1 h2 h3 hs g d it W hq)
  have HP := Lib.hid hp
  have HB0 := Lib.hid ((Below.refl w.heap.size w).alloc (Nat.le_refl _) (.cells (cellsC c g d it) 74))
  have hq : ((((buildC c).2 : Nat) : Int) == 0) = decide ((buildC c).2 = 0) := by
    by_cases h : (buildC c).2 = 0
    · rw [h]; rfl
    · rw [decide_eq_false h]; exact beq_eq_false_iff_ne.2 (by omega)
  have HQ := Lib.hid hq
  clear hq
  generalize decide ((buildC c).2 = 0) = q at *
  generalize (buildC c).1 = b at *
  generalize (buildC c).2 = e0 at *
  obtain ⟨⟨A1, k1, rfl⟩, ⟨A2, k2, rfl⟩, ⟨A3, k3, rfl⟩⟩ := hp.slices
  clear hp hw h1 h2 h3 hs
  obtain ⟨ty, fl, tsn, tag, win, ppid, st, ssn, outs, ins, gaps, dups, items, text⟩ := c
  dsimp only [cellsC] at HBD HB0 ⊢
  go_enter Tryz.func51, Tryz.ntmps51
  go_wp2_with fail
  refine (HBD.out _ (HP.out.below HB0.out)).mono ?_
  rintro _ w1 ⟨rfl, hb1⟩
  replace HB0 := Lib.hid (HB0.out.trans (hb1.mono HB0.out.size))
  clear hb1
  have hq := HQ.out
  go_wp2_with fail
  go_ret
  exact ⟨rfl, HB0.out⟩
set_option maxHeartbeats 2000000 in
theorem rksize_any (c : Ck) (hw : WfC c) (h1 : c.gaps.length ≤ 100000) (h2 : c.dups.length ≤ 100000) (h3 : c.items.length ≤ 100000) (hs : ∀ x ∈ c.items, x.2.size ≤ 1000000) (g d it : Value) (w : World) (hp : Parts w c g d it) :
    Calls Tryz.prog 52 #[.agg (cellsC c g d it)] w fun e w' => e = .returned (.int .i64 ((buildC c).1.size : Nat)) ∧ Below w.heap.size w w' := by
  have HBD := Lib.hid (fun W hq => rkbuild_any c hw h1 h2 h3 hs g d it W hq)
  have HP := Lib.hid hp
  have HB0 := Lib.hid ((Below.refl w.heap.size w).alloc (Nat.le_refl _) (.cells (cellsC c g d it) 74))
  have hbz : (buildC c).1.size ≤ 1400 := by
    by_cases h : (buildC c).2 = 0
    · exact (built_size h).2.1
    · rw [buildC_none h]; decide
  generalize (buildC c).1 = b at *
  generalize (buildC c).2 = e0 at *
  obtain ⟨⟨A1, k1, rfl⟩, ⟨A2, k2, rfl⟩, ⟨A3, k3, rfl⟩⟩ := hp.slices
  clear hp hw h1 h2 h3 hs
  obtain ⟨ty, fl, tsn, tag, win, ppid, st, ssn, outs, ins, gaps, dups, items, text⟩ := c
  dsimp only [cellsC] at HBD HB0 ⊢
  go_enter Tryz.func52, Tryz.ntmps52
  go_wp2_with fail
  refine (HBD.out _ (HP.out.below HB0.out)).mono ?_
  rintro _ w1 ⟨rfl, hb1⟩
  replace HB0 := Lib.hid (HB0.out.trans (hb1.mono HB0.out.size))
  clear hb1
  go_wp2_with fail
  go_ret
  exact ⟨rfl, HB0.out⟩
end Go.Proofs.YtlbaockipeojhaaGreat
end
