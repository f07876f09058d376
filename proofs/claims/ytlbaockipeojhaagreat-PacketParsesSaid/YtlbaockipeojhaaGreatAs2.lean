/-
  A chunk as the document has it, told where its items lie: a contract.
-/
import Derived.Test.YtlbaockipeojhaaGreatAs
import Derived.Test.YtlbaockipeojhaaGreatCkFact
import Derived.BigRegion
namespace Go.Proofs.YtlbaockipeojhaaGreat
open Go.RowKit
set_option linter.unusedVariables false
set_option linter.unusedSimpArgs false
set_option maxRecDepth 100000

/-- A chunk is handed back, with gaps and dups that were there, and items that are new. -/
def GaveA (c : Ck) (g d : Value) (w : World) (e : Ending) (w' : World) : Prop := ∃ it, e = .returned (.agg (cellsC c g d it)) ∧ Parts w' c g d it ∧ (∀ j, it.ownBlock = some j → w.heap.size ≤ j) ∧ Below w.heap.size w w'
set_option maxHeartbeats 8000000 in
theorem as_gave (c : Ck) (hl : c.items.length ≤ 100000) (g d it : Value) (w : World) (hp : Parts w c g d it) :
    Calls Tryz.prog 58 #[.agg (cellsC c g d it)] w (GaveA c g d w) := by
  have HCS := Lib.hid rkSize
  obtain ⟨⟨A1, k1, rfl⟩, ⟨A2, k2, rfl⟩, ⟨A3, k3, rfl⟩⟩ := hp.slices
  have HONE := Lib.hid hp.one
  have HP := Lib.hid hp
  obtain ⟨ty, fl, tsn, tag, win, ppid, st, ssn, outs, ins, gaps, dups, items, text⟩ := c
  dsimp only [cellsC] at *
  obtain ⟨A3', k3', h3, hcap, hmax, hcells⟩ := hp.items
  cases h3
  obtain ⟨i0, hi0, hz0, hz1, hz2⟩ := info_parts info63
  have HI := Lib.hid hi0
  have HZ0 := Lib.hid hz0
  have HZ1 := Lib.hid hz1
  have HZ2 := Lib.hid hz2
  have HC := Lib.hid hcells
  have HT := Lib.hid (fun k (h : k < items.length) => flatI_take items k h)
  have HL := Lib.hid (show flatI (items.take items.length) = flatI items by rw [List.take_length])
  have HL0 := Lib.hid (show flatI (items.take 0) = [] from rfl)
  have hl' : (items.length : Int) ≤ 100000 := by omega
  clear hcells hi0 hz0 hz1 hz2 hp
  go_enter Tryz.func58, Tryz.ntmps58
  go_wp2_with fail
  have HS0 := Lib.hid (show AsS w #[.int .i64 ty, .int .i64 fl, .int .u32 (tsn : Int), .int .u32 (tag : Int), .int .u32 (win : Int), .int .u32 (ppid : Int), .int .u16 (st : Int), .int .u16 (ssn : Int), .int .u16 (outs : Int), .int .u16 (ins : Int), .slice A1 gaps.length k1, .slice A2 dups.length k2, .slice A3 items.length k3, .string text] #[.int .i64 0, .int .i64 0, .int .u32 0, .int .u32 0, .int .u32 0, .int .u32 0, .int .u16 0, .int .u16 0, .int .u16 0, .int .u16 0, .slice none 0 0, .slice none 0 0, .slice none 0 0, .string ⟨#[]⟩] (fun u => #[.int .i64 ty, .int .i64 fl, .int .u32 (tsn : Int), .int .u32 (tag : Int), .int .u32 (win : Int), .int .u32 (ppid : Int), .int .u16 (st : Int), .int .u16 (ssn : Int), .int .u16 (outs : Int), .int .u16 (ins : Int), .slice A1 gaps.length k1, .slice A2 dups.length k2, u, .string text]) (flatI (items.take 0)) 0 (((w.alloc (.cells #[.int .i64 ty, .int .i64 fl, .int .u32 (tsn : Int), .int .u32 (tag : Int), .int .u32 (win : Int), .int .u32 (ppid : Int), .int .u16 (st : Int), .int .u16 (ssn : Int), .int .u16 (outs : Int), .int .u16 (ins : Int), .slice A1 gaps.length k1, .slice A2 dups.length k2, .slice A3 items.length k3, .string text] 52)).alloc (.cells #[.int .i64 0, .int .i64 0, .int .u32 0, .int .u32 0, .int .u32 0, .int .u32 0, .int .u16 0, .int .u16 0, .int .u16 0, .int .u16 0, .slice none 0 0, .slice none 0 0, .slice none 0 0, .string ⟨#[]⟩] 74)).alloc (.cells #[.int .i64 ty, .int .i64 fl, .int .u32 (tsn : Int), .int .u32 (tag : Int), .int .u32 (win : Int), .int .u32 (ppid : Int), .int .u16 (st : Int), .int .u16 (ssn : Int), .int .u16 (outs : Int), .int .u16 (ins : Int), .slice A1 gaps.length k1, .slice A2 dups.length k2, .slice none 0 0, .string text] 74)) from by
    have key : ∀ (X : World) (o : Obj) (n : Nat), X.heap.size = n → (X.alloc o).heap[n]? = some o ∧ (X.alloc o).heap.size = n + 1 ∧ ∀ j, j < n → (X.alloc o).heap[j]? = X.heap[j]? := by
      intro X o n hn
      subst hn
      exact ⟨heap_alloc_new X o, World.size_alloc _ _, fun j hj => Below.heap_alloc _ _ _ hj⟩
    obtain ⟨a1, a2, a3⟩ := key w (.cells #[.int .i64 ty, .int .i64 fl, .int .u32 (tsn : Int), .int .u32 (tag : Int), .int .u32 (win : Int), .int .u32 (ppid : Int), .int .u16 (st : Int), .int .u16 (ssn : Int), .int .u16 (outs : Int), .int .u16 (ins : Int), .slice A1 gaps.length k1, .slice A2 dups.length k2, .slice A3 items.length k3, .string text] 52) _ rfl
    obtain ⟨b1, b2, b3⟩ := key (w.alloc (.cells #[.int .i64 ty, .int .i64 fl, .int .u32 (tsn : Int), .int .u32 (tag : Int), .int .u32 (win : Int), .int .u32 (ppid : Int), .int .u16 (st : Int), .int .u16 (ssn : Int), .int .u16 (outs : Int), .int .u16 (ins : Int), .slice A1 gaps.length k1, .slice A2 dups.length k2, .slice A3 items.length k3, .string text] 52)) (.cells #[.int .i64 0, .int .i64 0, .int .u32 0, .int .u32 0, .int .u32 0, .int .u32 0, .int .u16 0, .int .u16 0, .int .u16 0, .int .u16 0, .slice none 0 0, .slice none 0 0, .slice none 0 0, .string ⟨#[]⟩] 74) _ a2
    obtain ⟨c1, c2, c3⟩ := key ((w.alloc (.cells #[.int .i64 ty, .int .i64 fl, .int .u32 (tsn : Int), .int .u32 (tag : Int), .int .u32 (win : Int), .int .u32 (ppid : Int), .int .u16 (st : Int), .int .u16 (ssn : Int), .int .u16 (outs : Int), .int .u16 (ins : Int), .slice A1 gaps.length k1, .slice A2 dups.length k2, .slice A3 items.length k3, .string text] 52)).alloc (.cells #[.int .i64 0, .int .i64 0, .int .u32 0, .int .u32 0, .int .u32 0, .int .u32 0, .int .u16 0, .int .u16 0, .int .u16 0, .int .u16 0, .slice none 0 0, .slice none 0 0, .slice none 0 0, .string ⟨#[]⟩] 74)) (.cells #[.int .i64 ty, .int .i64 fl, .int .u32 (tsn : Int), .int .u32 (tag : Int), .int .u32 (win : Int), .int .u32 (ppid : Int), .int .u16 (st : Int), .int .u16 (ssn : Int), .int .u16 (outs : Int), .int .u16 (ins : Int), .slice A1 gaps.length k1, .slice A2 dups.length k2, .slice none 0 0, .string text] 74) _ b2
    refine ⟨none, 0, ?_, ?_, c1, by rw [HL0.out]; exact OwnG.nil _ _ _ _, (((Below.refl _ _).alloc (Nat.le_refl _) _).alloc (by omega) _).alloc (by omega) _, by omega⟩
    · rw [c3 _ (by omega), b3 _ (by omega), a1]
    · rw [c3 _ (by omega), b1])
  generalize (((w.alloc (.cells #[.int .i64 ty, .int .i64 fl, .int .u32 (tsn : Int), .int .u32 (tag : Int), .int .u32 (win : Int), .int .u32 (ppid : Int), .int .u16 (st : Int), .int .u16 (ssn : Int), .int .u16 (outs : Int), .int .u16 (ins : Int), .slice A1 gaps.length k1, .slice A2 dups.length k2, .slice A3 items.length k3, .string text] 52)).alloc (.cells #[.int .i64 0, .int .i64 0, .int .u32 0, .int .u32 0, .int .u32 0, .int .u32 0, .int .u16 0, .int .u16 0, .int .u16 0, .int .u16 0, .slice none 0 0, .slice none 0 0, .slice none 0 0, .string ⟨#[]⟩] 74)).alloc (.cells #[.int .i64 ty, .int .i64 fl, .int .u32 (tsn : Int), .int .u32 (tag : Int), .int .u32 (win : Int), .int .u32 (ppid : Int), .int .u16 (st : Int), .int .u16 (ssn : Int), .int .u16 (outs : Int), .int .u16 (ins : Int), .slice A1 gaps.length k1, .slice A2 dups.length k2, .slice none 0 0, .string text] 74)) = w3 at *
  go_loopw [4] (fun i wr => ∃ k : Nat, k ≤ items.length ∧ i = .int .i64 k ∧ Hid (AsS w #[.int .i64 ty, .int .i64 fl, .int .u32 (tsn : Int), .int .u32 (tag : Int), .int .u32 (win : Int), .int .u32 (ppid : Int), .int .u16 (st : Int), .int .u16 (ssn : Int), .int .u16 (outs : Int), .int .u16 (ins : Int), .slice A1 gaps.length k1, .slice A2 dups.length k2, .slice A3 items.length k3, .string text] #[.int .i64 0, .int .i64 0, .int .u32 0, .int .u32 0, .int .u32 0, .int .u32 0, .int .u16 0, .int .u16 0, .int .u16 0, .int .u16 0, .slice none 0 0, .slice none 0 0, .slice none 0 0, .string ⟨#[]⟩] (fun u => #[.int .i64 ty, .int .i64 fl, .int .u32 (tsn : Int), .int .u32 (tag : Int), .int .u32 (win : Int), .int .u32 (ppid : Int), .int .u16 (st : Int), .int .u16 (ssn : Int), .int .u16 (outs : Int), .int .u16 (ins : Int), .slice A1 gaps.length k1, .slice A2 dups.length k2, u, .string text]) (flatI (items.take k)) k wr))
    (fun i _ => items.length - (intOf i).toNat)
  case atStart => exact ⟨0, Nat.zero_le _, rfl, HS0⟩
  case round =>
    obtain ⟨k, hk, rfl, HR⟩ := hrel
    obtain ⟨A, cap, hs0, hs1, hs2, hown, hbw, hsz⟩ := HR.out
    dsimp only at hs2
    have c12 : wr.cell? ⟨w.heap.size, 12, none⟩ = some (.slice A3 items.length k3) := by rw [cell_in hs0]; rfl
    by_cases hlt : k < items.length
    · obtain ⟨b, off, rfl, hb, hc⟩ := HC.out (by omega)
      obtain ⟨hc0, hc1⟩ := hc k hlt
      have HT1 := Lib.hid (HT.out k hlt)
      generalize hxe : items[k] = x at *
      obtain ⟨a, t⟩ := x
      dsimp only at hc0 hc1
      have hd0 := (hbw.cell (p := ⟨b, off + k * 2, none⟩) hb).trans hc0
      have hd1 := (hbw.cell (p := ⟨b, off + k * 2 + 1, none⟩) hb).trans hc1
      have d12 : wr.cell? ⟨w.heap.size + 1 + 1, 12, none⟩ = some (.slice A k cap) := by rw [cell_in hs2]; rfl
      have hwl : w.heap.size + 1 + 1 < wr.heap.size := by omega
      have q4 : (0 : Int) ≤ (k : Int) := by omega
      have q5 : (k : Int) < (items.length : Int) := by omega
      have HOWN := Lib.hid hown
      have HBW := Lib.hid hbw
      have HS0' := Lib.hid hs0
      have HS1' := Lib.hid hs1
      have HS2' := Lib.hid hs2
      have HKS := Lib.hid (fun (W' : World) (hW : ∀ j, j < w.heap.size + 2 → W'.heap[j]? = wr.heap[j]?) => show W'.cell? ⟨w.heap.size, 12, none⟩ = some (.slice (some ⟨b, off, none⟩) items.length k3) ∧ W'.cell? ⟨b, off + k * 2, none⟩ = some (.int .i64 a) ∧ W'.cell? ⟨b, off + k * 2 + 1, none⟩ = some (.string t) from
        ⟨(World.cell?_of_block (w := wr) (a := ⟨w.heap.size, 12, none⟩) (hW w.heap.size (by omega))).trans c12, (World.cell?_of_block (w := wr) (a := ⟨b, off + k * 2, none⟩) (hW b (by omega))).trans hd0, (World.cell?_of_block (w := wr) (a := ⟨b, off + k * 2 + 1, none⟩) (hW b (by omega))).trans hd1⟩)
      clear hc hxe hs0 hs1 hs2 hown hbw hc0 hc1 HS0 hd0 hd1
      go_wp2_with fail
      refine wp_region_noPanic ?_
      refine wp_region_held_drew (S := (fun w' => w'.cell? ⟨w.heap.size, 12, none⟩ = some (.slice (some ⟨b, off, none⟩) items.length k3) ∧ w'.cell? ⟨b, off + k * 2, none⟩ = some (.int .i64 a) ∧ w'.cell? ⟨b, off + k * 2 + 1, none⟩ = some (.string t))) (by kernel_rfl) ?_ (fun hHeld => ?_)
      · (first | exact HKS.out _ (fun j hj => rfl) | exact HKS.out _ (fun j hj => Below.heap_alloc wr _ j (by omega)) | exact HKS.out _ (fun j hj => H58.out.2.1 j (by omega)) | exact HKS.out _ (fun j hj => (Below.heap_setCell w58 _ _ j (by show j ≠ w.heap.size + 2; omega)).trans (H58.out.2.1 j (by omega))))
      refine k9 0 ?_ (y := ?_) (h := ?_)
      rotate_left 1
      · (intro w' hSw; (try dsimp only at hSw); go_simp; try with_reducible rfl)
      try simp only [Act.put, p9a, p9z, p9s]
      refine k9 2 ?_ (y := ?_) (h := ?_)
      rotate_left 1
      · (intro w' hSw; (try dsimp only at hSw); go_simp; try with_reducible rfl)
      try simp only [Act.put, p9a, p9z, p9s]
      refine k9 3 ?_ (y := ?_) (h := ?_)
      rotate_left 1
      · (intro w' hSw; (try dsimp only at hSw); go_simp; try with_reducible rfl)
      try simp only [Act.put, p9a, p9z, p9s]
      refine k9 4 ?_ (y := ?_) (h := ?_)
      rotate_left 1
      · (intro w' hSw; (try dsimp only at hSw); go_simp; try with_reducible rfl)
      try simp only [Act.put, p9a, p9z, p9s]
      refine k9 5 ?_ (y := ?_) (h := ?_)
      rotate_left 1
      · (intro w' hSw; (try dsimp only at hSw); go_simp; try with_reducible rfl)
      try simp only [Act.put, p9a, p9z, p9s]
      refine k9 6 ?_ (y := ?_) (h := ?_)
      rotate_left 1
      · (intro w' hSw; (try dsimp only at hSw); go_simp; try with_reducible rfl)
      try simp only [Act.put, p9a, p9z, p9s]
      refine k9 7 ?_ (y := ?_) (h := ?_)
      rotate_left 1
      · (intro w' hSw; (try dsimp only at hSw); go_simp; try with_reducible rfl)
      try simp only [Act.put, p9a, p9z, p9s]
      refine k9 8 ?_ (y := ?_) (h := ?_)
      rotate_left 1
      · (intro w' hSw; (try dsimp only at hSw); go_simp; try with_reducible rfl)
      try simp only [Act.put, p9a, p9z, p9s]
      refine k9 9 ?_ (y := ?_) (h := ?_)
      rotate_left 1
      · (intro w' hSw; (try dsimp only at hSw); go_simp; try with_reducible rfl)
      try simp only [Act.put, p9a, p9z, p9s]
      refine k9 10 ?_ (y := ?_) (h := ?_)
      rotate_left 1
      · (intro w' hSw; (try dsimp only at hSw); go_simp; try with_reducible rfl)
      try simp only [Act.put, p9a, p9z, p9s]
      refine k9 11 ?_ (y := ?_) (h := ?_)
      rotate_left 1
      · (intro w' hSw; (try dsimp only at hSw); go_simp; try with_reducible rfl)
      try simp only [Act.put, p9a, p9z, p9s]
      refine k9 12 ?_ (y := ?_) (h := ?_)
      rotate_left 1
      · (intro w' hSw; (try dsimp only at hSw); go_simp; try with_reducible rfl)
      try simp only [Act.put, p9a, p9z, p9s]
      refine k9 13 ?_ (y := ?_) (h := ?_)
      rotate_left 1
      · (intro w' hSw; (try dsimp only at hSw); go_simp; try with_reducible rfl)
      try simp only [Act.put, p9a, p9z, p9s]
      refine k9 14 ?_ (y := ?_) (h := ?_)
      rotate_left 1
      · (intro w' hSw; (try dsimp only at hSw); go_simp; try with_reducible rfl)
      try simp only [Act.put, p9a, p9z, p9s]
      refine wpAnyH_ready (rs := [1, 15]) (by kernel_rfl) (by simp) ?_
      refine AllReadyH.cons (by simp only [q9a, q9s, q9z]; rfl) (fun K hK => ?_) ?_
      · skip
        go_simp
        refine hK.out _ _ ?_ (fun hHeld => ?_)
        · (first | exact HKS.out _ (fun j hj => rfl) | exact HKS.out _ (fun j hj => Below.heap_alloc wr _ j (by omega)) | exact HKS.out _ (fun j hj => H58.out.2.1 j (by omega)) | exact HKS.out _ (fun j hj => (Below.heap_setCell w58 _ _ j (by show j ≠ w.heap.size + 2; omega)).trans (H58.out.2.1 j (by omega))))
        clear hK K
        try simp only [Act.put, p9a, p9z, p9s]
        refine wpAnyH_ready (rs := [15]) (by kernel_rfl) (by simp) ?_
        refine AllReadyH.cons (by simp only [q9a, q9s, q9z]; rfl) (fun K hK => ?_) AllReadyH.nil
        go_simp
        refine hK.out _ _ ?_ (fun hHeld => ?_)
        · (first | exact HKS.out _ (fun j hj => rfl) | exact HKS.out _ (fun j hj => Below.heap_alloc wr _ j (by omega)) | exact HKS.out _ (fun j hj => H58.out.2.1 j (by omega)) | exact HKS.out _ (fun j hj => (Below.heap_setCell w58 _ _ j (by show j ≠ w.heap.size + 2; omega)).trans (H58.out.2.1 j (by omega))))
        clear hK K
        try simp only [Act.put, p9a, p9z, p9s]
        refine wpAnyH_ready (rs := [16]) (by kernel_rfl) (by simp) ?_
        refine AllReadyH.cons (by simp only [q9a, q9s, q9z]; rfl) (fun K hK => ?_) AllReadyH.nil
        refine step_append_base _ (by rfl) (.tmp 40) (.tmp 54) 72 72 (by rfl) (w.heap.size + 3) (by simp; omega) 105 i0 _ 2 24 Tryz.underlying72 (.inr ⟨_, Tryz.underlying72⟩) HI.out HZ0.out HZ1.out HZ2.out rfl _ k _ (by rfl) ((HOWN.out.alloc _).drew) _ 1 [.int .i64 a, .string t] (by rfl) (Fed.heap (fed_two wr _ _ _ rfl rfl) rfl) (by simp only [maxLen]; omega) (by omega) ?_
        intro v58 w58 hown58 hg58
        obtain ⟨A58, c58, rfl, -⟩ := hown58.slice
        have hnb : ∀ j, j < w.heap.size + 3 → some j ≠ (Value.slice A k cap).ownBlock := fun j hj e => by have := (HOWN.out.lt j e.symm).1; omega
        have hk58 : ∀ j, j < w.heap.size + 3 → w58.heap[j]? = wr.heap[j]? := fun j hj => (hg58.block j (by simp; omega) (hnb j hj)).trans (Below.heap_alloc wr _ j (by omega))
        have hz58 : wr.heap.size + 1 ≤ w58.heap.size := by have := hg58.size; simpa using this
        have H58 := Lib.hid (And.intro hown58 (And.intro hk58 (And.intro hz58 (And.intro hg58.os (And.intro hg58.tape hg58.output)))))
        have e58 : w58.cell? ⟨w.heap.size + 1 + 1, 12, none⟩ = some (.slice A k cap) := (World.cell?_of_block (w := wr) (a := ⟨w.heap.size + 2, 12, none⟩) (hk58 (w.heap.size + 2) (by omega))).trans d12
        have f58 : w58.frozen? ⟨w.heap.size + 1 + 1, 12, none⟩ = false := frozen_of_row ((hk58 (w.heap.size + 2) (by omega)).trans HS2'.out) 12
        clear hown58 hg58 hnb hk58
        refine hK.out _ _ ?_ (fun hHeld => ?_)
        · (first | exact HKS.out _ (fun j hj => rfl) | exact HKS.out _ (fun j hj => Below.heap_alloc wr _ j (by omega)) | exact HKS.out _ (fun j hj => H58.out.2.1 j (by omega)) | exact HKS.out _ (fun j hj => (Below.heap_setCell w58 _ _ j (by show j ≠ w.heap.size + 2; omega)).trans (H58.out.2.1 j (by omega))))
        clear hK K
        try simp only [Act.put, p9a, p9z, p9s]
        refine k9 17 ?_ (y := ?_) (h := ?_)
        rotate_left 1
        · (intro w' hSw; (try dsimp only at hSw); go_simp; try with_reducible rfl)
        try simp only [Act.put, p9a, p9z, p9s]
        refine wpAnyH_ready (rs := [18]) (by kernel_rfl) (by simp) ?_
        refine AllReadyH.cons (by simp only [q9a, q9s, q9z]; rfl) (fun K hK => ?_) AllReadyH.nil
        go_simp
        refine hK.out _ _ ?_ (fun hHeld => ?_)
        · (first | exact HKS.out _ (fun j hj => rfl) | exact HKS.out _ (fun j hj => Below.heap_alloc wr _ j (by omega)) | exact HKS.out _ (fun j hj => H58.out.2.1 j (by omega)) | exact HKS.out _ (fun j hj => (Below.heap_setCell w58 _ _ j (by show j ≠ w.heap.size + 2; omega)).trans (H58.out.2.1 j (by omega))))
        clear hK K
        try simp only [Act.put, p9a, p9z, p9s]
        refine wpAnyH_done (by kernel_rfl) ?_ _
        refine NoPanic.normal ?_
        clear hHeld
        have HN := Lib.hid (show AsS w #[.int .i64 ty, .int .i64 fl, .int .u32 (tsn : Int), .int .u32 (tag : Int), .int .u32 (win : Int), .int .u32 (ppid : Int), .int .u16 (st : Int), .int .u16 (ssn : Int), .int .u16 (outs : Int), .int .u16 (ins : Int), .slice A1 gaps.length k1, .slice A2 dups.length k2, .slice (some ⟨b, off, none⟩) items.length k3, .string text] #[.int .i64 0, .int .i64 0, .int .u32 0, .int .u32 0, .int .u32 0, .int .u32 0, .int .u16 0, .int .u16 0, .int .u16 0, .int .u16 0, .slice none 0 0, .slice none 0 0, .slice none 0 0, .string ⟨#[]⟩] (fun u => #[.int .i64 ty, .int .i64 fl, .int .u32 (tsn : Int), .int .u32 (tag : Int), .int .u32 (win : Int), .int .u32 (ppid : Int), .int .u16 (st : Int), .int .u16 (ssn : Int), .int .u16 (outs : Int), .int .u16 (ins : Int), .slice A1 gaps.length k1, .slice A2 dups.length k2, u, .string text]) (flatI (items.take (k + 1))) (k + 1) (w58.setCell ⟨w.heap.size + 2, 12, none⟩ (.slice A58 (k + 1) c58)) from by
          have ne : ∀ j, j ≠ w.heap.size + 2 → (w58.setCell ⟨w.heap.size + 2, 12, none⟩ (.slice A58 (k + 1) c58)).heap[j]? = w58.heap[j]? := fun j hj => Below.heap_setCell _ _ _ _ hj
          have hk := H58.out.2.1
          refine ⟨A58, c58, (ne _ (by omega)).trans ((hk _ (by omega)).trans HS0'.out), (ne _ (by omega)).trans ((hk _ (by omega)).trans HS1'.out), ?_, ?_, ?_, ?_⟩
          · have := row_set ((hk (w.heap.size + 2) (by omega)).trans HS2'.out) 12 (.slice A58 (k + 1) c58)
            simpa using this
          · rw [HT1.out]
            exact H58.out.1.keep fun j hj => ne j (by have := (H58.out.1.lt j hj).1; omega)
          · refine Below.setCell ⟨?_, ?_, ?_, ?_, fun j hj => (hk j (by omega)).trans (HBW.out.block j hj)⟩ (by show w.heap.size ≤ w.heap.size + 2; omega) _
            · exact H58.out.2.2.2.1.trans HBW.out.os
            · exact H58.out.2.2.2.2.1.trans HBW.out.tape
            · exact H58.out.2.2.2.2.2.trans HBW.out.output
            · have := H58.out.2.2.1; have := HBW.out.size; omega
          · have := H58.out.2.2.1; simp [World.setCell]; omega)
        clear H58 HOWN HBW HS0' HS1' HS2' HKS d12 e58 f58
        go_wp2_with fail
        go_roundw
        case rel => exact ⟨k + 1, by omega, by go_num, HN⟩
        case measure => simp [intOf]; omega
      refine AllReadyH.cons (by simp only [q9a, q9s, q9z]; rfl) (fun K hK => ?_) AllReadyH.nil
      go_simp
      refine hK.out _ _ ?_ (fun hHeld => ?_)
      · (first | exact HKS.out _ (fun j hj => rfl) | exact HKS.out _ (fun j hj => Below.heap_alloc wr _ j (by omega)) | exact HKS.out _ (fun j hj => H58.out.2.1 j (by omega)) | exact HKS.out _ (fun j hj => (Below.heap_setCell w58 _ _ j (by show j ≠ w.heap.size + 2; omega)).trans (H58.out.2.1 j (by omega))))
      clear hK K
      try simp only [Act.put, p9a, p9z, p9s]
      refine wpAnyH_ready (rs := [1]) (by kernel_rfl) (by simp) ?_
      refine AllReadyH.cons (by simp only [q9a, q9s, q9z]; rfl) (fun K hK => ?_) AllReadyH.nil
      go_simp
      refine hK.out _ _ ?_ (fun hHeld => ?_)
      · (first | exact HKS.out _ (fun j hj => rfl) | exact HKS.out _ (fun j hj => Below.heap_alloc wr _ j (by omega)) | exact HKS.out _ (fun j hj => H58.out.2.1 j (by omega)) | exact HKS.out _ (fun j hj => (Below.heap_setCell w58 _ _ j (by show j ≠ w.heap.size + 2; omega)).trans (H58.out.2.1 j (by omega))))
      clear hK K
      try simp only [Act.put, p9a, p9z, p9s]
      refine wpAnyH_ready (rs := [16]) (by kernel_rfl) (by simp) ?_
      refine AllReadyH.cons (by simp only [q9a, q9s, q9z]; rfl) (fun K hK => ?_) AllReadyH.nil
      refine step_append_base _ (by rfl) (.tmp 40) (.tmp 54) 72 72 (by rfl) (w.heap.size + 3) (by simp; omega) 105 i0 _ 2 24 Tryz.underlying72 (.inr ⟨_, Tryz.underlying72⟩) HI.out HZ0.out HZ1.out HZ2.out rfl _ k _ (by rfl) ((HOWN.out.alloc _).drew) _ 1 [.int .i64 a, .string t] (by rfl) (Fed.heap (fed_two wr _ _ _ rfl rfl) rfl) (by simp only [maxLen]; omega) (by omega) ?_
      intro v58 w58 hown58 hg58
      obtain ⟨A58, c58, rfl, -⟩ := hown58.slice
      have hnb : ∀ j, j < w.heap.size + 3 → some j ≠ (Value.slice A k cap).ownBlock := fun j hj e => by have := (HOWN.out.lt j e.symm).1; omega
      have hk58 : ∀ j, j < w.heap.size + 3 → w58.heap[j]? = wr.heap[j]? := fun j hj => (hg58.block j (by simp; omega) (hnb j hj)).trans (Below.heap_alloc wr _ j (by omega))
      have hz58 : wr.heap.size + 1 ≤ w58.heap.size := by have := hg58.size; simpa using this
      have H58 := Lib.hid (And.intro hown58 (And.intro hk58 (And.intro hz58 (And.intro hg58.os (And.intro hg58.tape hg58.output)))))
      have e58 : w58.cell? ⟨w.heap.size + 1 + 1, 12, none⟩ = some (.slice A k cap) := (World.cell?_of_block (w := wr) (a := ⟨w.heap.size + 2, 12, none⟩) (hk58 (w.heap.size + 2) (by omega))).trans d12
      have f58 : w58.frozen? ⟨w.heap.size + 1 + 1, 12, none⟩ = false := frozen_of_row ((hk58 (w.heap.size + 2) (by omega)).trans HS2'.out) 12
      clear hown58 hg58 hnb hk58
      refine hK.out _ _ ?_ (fun hHeld => ?_)
      · (first | exact HKS.out _ (fun j hj => rfl) | exact HKS.out _ (fun j hj => Below.heap_alloc wr _ j (by omega)) | exact HKS.out _ (fun j hj => H58.out.2.1 j (by omega)) | exact HKS.out _ (fun j hj => (Below.heap_setCell w58 _ _ j (by show j ≠ w.heap.size + 2; omega)).trans (H58.out.2.1 j (by omega))))
      clear hK K
      try simp only [Act.put, p9a, p9z, p9s]
      refine k9 17 ?_ (y := ?_) (h := ?_)
      rotate_left 1
      · (intro w' hSw; (try dsimp only at hSw); go_simp; try with_reducible rfl)
      try simp only [Act.put, p9a, p9z, p9s]
      refine wpAnyH_ready (rs := [18]) (by kernel_rfl) (by simp) ?_
      refine AllReadyH.cons (by simp only [q9a, q9s, q9z]; rfl) (fun K hK => ?_) AllReadyH.nil
      go_simp
      refine hK.out _ _ ?_ (fun hHeld => ?_)
      · (first | exact HKS.out _ (fun j hj => rfl) | exact HKS.out _ (fun j hj => Below.heap_alloc wr _ j (by omega)) | exact HKS.out _ (fun j hj => H58.out.2.1 j (by omega)) | exact HKS.out _ (fun j hj => (Below.heap_setCell w58 _ _ j (by show j ≠ w.heap.size + 2; omega)).trans (H58.out.2.1 j (by omega))))
      clear hK K
      try simp only [Act.put, p9a, p9z, p9s]
      refine wpAnyH_done (by kernel_rfl) ?_ _
      refine NoPanic.normal ?_
      clear hHeld
      have HN := Lib.hid (show AsS w #[.int .i64 ty, .int .i64 fl, .int .u32 (tsn : Int), .int .u32 (tag : Int), .int .u32 (win : Int), .int .u32 (ppid : Int), .int .u16 (st : Int), .int .u16 (ssn : Int), .int .u16 (outs : Int), .int .u16 (ins : Int), .slice A1 gaps.length k1, .slice A2 dups.length k2, .slice (some ⟨b, off, none⟩) items.length k3, .string text] #[.int .i64 0, .int .i64 0, .int .u32 0, .int .u32 0, .int .u32 0, .int .u32 0, .int .u16 0, .int .u16 0, .int .u16 0, .int .u16 0, .slice none 0 0, .slice none 0 0, .slice none 0 0, .string ⟨#[]⟩] (fun u => #[.int .i64 ty, .int .i64 fl, .int .u32 (tsn : Int), .int .u32 (tag : Int), .int .u32 (win : Int), .int .u32 (ppid : Int), .int .u16 (st : Int), .int .u16 (ssn : Int), .int .u16 (outs : Int), .int .u16 (ins : Int), .slice A1 gaps.length k1, .slice A2 dups.length k2, u, .string text]) (flatI (items.take (k + 1))) (k + 1) (w58.setCell ⟨w.heap.size + 2, 12, none⟩ (.slice A58 (k + 1) c58)) from by
        have ne : ∀ j, j ≠ w.heap.size + 2 → (w58.setCell ⟨w.heap.size + 2, 12, none⟩ (.slice A58 (k + 1) c58)).heap[j]? = w58.heap[j]? := fun j hj => Below.heap_setCell _ _ _ _ hj
        have hk := H58.out.2.1
        refine ⟨A58, c58, (ne _ (by omega)).trans ((hk _ (by omega)).trans HS0'.out), (ne _ (by omega)).trans ((hk _ (by omega)).trans HS1'.out), ?_, ?_, ?_, ?_⟩
        · have := row_set ((hk (w.heap.size + 2) (by omega)).trans HS2'.out) 12 (.slice A58 (k + 1) c58)
          simpa using this
        · rw [HT1.out]
          exact H58.out.1.keep fun j hj => ne j (by have := (H58.out.1.lt j hj).1; omega)
        · refine Below.setCell ⟨?_, ?_, ?_, ?_, fun j hj => (hk j (by omega)).trans (HBW.out.block j hj)⟩ (by show w.heap.size ≤ w.heap.size + 2; omega) _
          · exact H58.out.2.2.2.1.trans HBW.out.os
          · exact H58.out.2.2.2.2.1.trans HBW.out.tape
          · exact H58.out.2.2.2.2.2.trans HBW.out.output
          · have := H58.out.2.2.1; have := HBW.out.size; omega
        · have := H58.out.2.2.1; simp [World.setCell]; omega)
      clear H58 HOWN HBW HS0' HS1' HS2' HKS d12 e58 f58
      go_wp2_with fail
      go_roundw
      case rel => exact ⟨k + 1, by omega, by go_num, HN⟩
      case measure => simp [intOf]; omega
    · obtain rfl : k = items.length := by omega
      clear hs0
      rw [HL.out] at hown
      have HX1 := Lib.hid hs1
      have HX2 := Lib.hid (show wr.heap[w.heap.size + 1 + 1]? = some (.cells #[.int .i64 ty, .int .i64 fl, .int .u32 (tsn : Int), .int .u32 (tag : Int), .int .u32 (win : Int), .int .u32 (ppid : Int), .int .u16 (st : Int), .int .u16 (ssn : Int), .int .u16 (outs : Int), .int .u16 (ins : Int), .slice A1 gaps.length k1, .slice A2 dups.length k2, .slice A items.length cap, .string text] 74 (0, 0)) from hs2)
      have HOWN := Lib.hid hown
      have HBW := Lib.hid hbw
      have HONE2 : Hid ((#[.int .i64 ty, .int .i64 fl, .int .u32 (tsn : Int), .int .u32 (tag : Int), .int .u32 (win : Int), .int .u32 (ppid : Int), .int .u16 (st : Int), .int .u16 (ssn : Int), .int .u16 (outs : Int), .int .u16 (ins : Int), .slice A1 gaps.length k1, .slice A2 dups.length k2, .slice A items.length cap, .string text] : Array Value).all (·.oneCell') = true) := Lib.hid (by simp [Value.oneCell'])
      clear hs1 hs2 hown hbw HR HS0
      go_wp2_with (first
        | (refine wpList_load_row rfl 74 (.tmp 3) rfl (w.heap.size + 1 + 1) rfl 74 #[.int .i64 ty, .int .i64 fl, .int .u32 (tsn : Int), .int .u32 (tag : Int), .int .u32 (win : Int), .int .u32 (ppid : Int), .int .u16 (st : Int), .int .u16 (ssn : Int), .int .u16 (outs : Int), .int .u16 (ins : Int), .slice A1 gaps.length k1, .slice A2 dups.length k2, .slice A items.length cap, .string text] (0, 0) _ HX2.out Tryz.underlying74 rfl HCS.out ?_)
        | (refine wpList_store_row rfl 74 (.tmp 2) (.tmp 57) rfl (w.heap.size + 1) #[.int .i64 ty, .int .i64 fl, .int .u32 (tsn : Int), .int .u32 (tag : Int), .int .u32 (win : Int), .int .u32 (ppid : Int), .int .u16 (st : Int), .int .u16 (ssn : Int), .int .u16 (outs : Int), .int .u16 (ins : Int), .slice A1 gaps.length k1, .slice A2 dups.length k2, .slice A items.length cap, .string text] rfl rfl 74 #[.int .i64 0, .int .i64 0, .int .u32 0, .int .u32 0, .int .u32 0, .int .u32 0, .int .u16 0, .int .u16 0, .int .u16 0, .int .u16 0, .slice none 0 0, .slice none 0 0, .slice none 0 0, .string ⟨#[]⟩] HX1.out HCS.out rfl HONE2.out ?_))
      have HB2 := Lib.hid (below_setRow (g := w.heap.size + 1) HBW.out (by omega) #[.int .i64 ty, .int .i64 fl, .int .u32 (tsn : Int), .int .u32 (tag : Int), .int .u32 (win : Int), .int .u32 (ppid : Int), .int .u16 (st : Int), .int .u16 (ssn : Int), .int .u16 (outs : Int), .int .u16 (ins : Int), .slice A1 gaps.length k1, .slice A2 dups.length k2, .slice A items.length cap, .string text])
      exact bodyPost_ret (v := .agg #[.int .i64 ty, .int .i64 fl, .int .u32 (tsn : Int), .int .u32 (tag : Int), .int .u32 (win : Int), .int .u32 (ppid : Int), .int .u16 (st : Int), .int .u16 (ssn : Int), .int .u16 (outs : Int), .int .u16 (ins : Int), .slice A1 gaps.length k1, .slice A2 dups.length k2, .slice A items.length cap, .string text]) (results_cell_row Tryz.results58 _ _ (w.heap.size + 1) _ #[.int .i64 ty, .int .i64 fl, .int .u32 (tsn : Int), .int .u32 (tag : Int), .int .u32 (win : Int), .int .u32 (ppid : Int), .int .u16 (st : Int), .int .u16 (ssn : Int), .int .u16 (outs : Int), .int .u16 (ins : Int), .slice A1 gaps.length k1, .slice A2 dups.length k2, .slice A items.length cap, .string text] _ _ (by rfl) (setRow_heap _ _ #[.int .i64 0, .int .i64 0, .int .u32 0, .int .u32 0, .int .u32 0, .int .u32 0, .int .u16 0, .int .u16 0, .int .u16 0, .int .u16 0, .slice none 0 0, .slice none 0 0, .slice none 0 0, .string ⟨#[]⟩] _ _ _ HX1.out) Tryz.underlying74 rfl HCS.out) rfl
        ⟨_, rfl, ⟨(HP.out.below HB2.out).gaps, (HP.out.below HB2.out).dups, rowI_of_own (HOWN.out.keep (w' := wr.setRow (w.heap.size + 1) #[.int .i64 ty, .int .i64 fl, .int .u32 (tsn : Int), .int .u32 (tag : Int), .int .u32 (win : Int), .int .u32 (ppid : Int), .int .u16 (st : Int), .int .u16 (ssn : Int), .int .u16 (outs : Int), .int .u16 (ins : Int), .slice A1 gaps.length k1, .slice A2 dups.length k2, .slice A items.length cap, .string text]) fun j hj => setRow_other _ _ _ _ (by have := (HOWN.out.lt j hj).1; omega))⟩, (fun j hj => Nat.le_trans (Nat.le_add_right _ 3) (HOWN.out.lt j hj).1), HB2.out⟩
end Go.Proofs.YtlbaockipeojhaaGreat
