/-
  The chunks of bytes: a contract.
-/
import Derived.Test.YtlbaockipeojhaaGreatFillA
import Derived.Test.YtlbaockipeojhaaGreatCkRead
import Derived.Test.YtlbaockipeojhaaGreatWhere8
import Derived.Test.YtlbaockipeojhaaGreatPkB
import Derived.BigRegion
namespace Go.Proofs.YtlbaockipeojhaaGreat
open Go.RowKit
set_option linter.unusedVariables false
set_option linter.unusedSimpArgs false
set_option maxRecDepth 100000

theorem RowG.lt {w w' : World} {v : Value} {l : List (Nat × Nat)} (h : RowG w v l) (hs : w.heap.size ≤ w'.heap.size) (hk : ∀ b, b < w.heap.size → v.ownBlock = some b → w'.heap[b]? = w.heap[b]?) : RowG w' v l := by
  obtain ⟨A, cap, rfl, hc, hm, h⟩ := h
  refine ⟨A, cap, rfl, hc, hm, fun hl => ?_⟩
  obtain ⟨b, off, rfl, hlt, hcell⟩ := h hl
  have e := hk b hlt rfl
  exact ⟨b, off, rfl, by omega, fun j hj => ⟨(World.cell?_of_block (a := ⟨b, off + j * 2, none⟩) e).trans (hcell j hj).1, (World.cell?_of_block (a := ⟨b, off + j * 2 + 1, none⟩) e).trans (hcell j hj).2⟩⟩
theorem RowI.lt {w w' : World} {v : Value} {l : List Item} (h : RowI w v l) (hs : w.heap.size ≤ w'.heap.size) (hk : ∀ b, b < w.heap.size → v.ownBlock = some b → w'.heap[b]? = w.heap[b]?) : RowI w' v l := by
  obtain ⟨A, cap, rfl, hc, hm, h⟩ := h
  refine ⟨A, cap, rfl, hc, hm, fun hl => ?_⟩
  obtain ⟨b, off, rfl, hlt, hcell⟩ := h hl
  have e := hk b hlt rfl
  exact ⟨b, off, rfl, by omega, fun j hj => ⟨(World.cell?_of_block (a := ⟨b, off + j * 2, none⟩) e).trans (hcell j hj).1, (World.cell?_of_block (a := ⟨b, off + j * 2 + 1, none⟩) e).trans (hcell j hj).2⟩⟩
theorem RowN.lt {w w' : World} {v : Value} {l : List Nat} (h : RowN w v l) (hs : w.heap.size ≤ w'.heap.size) (hk : ∀ b, b < w.heap.size → v.ownBlock = some b → w'.heap[b]? = w.heap[b]?) : RowN w' v l := by
  obtain ⟨A, cap, rfl, hc, hm, h⟩ := h
  refine ⟨A, cap, rfl, hc, hm, fun hl => ?_⟩
  obtain ⟨b, off, rfl, hlt, hcell⟩ := h hl
  have e := hk b hlt rfl
  exact ⟨b, off, rfl, by omega, fun j hj => (World.cell?_of_block (a := ⟨b, off + j, none⟩) e).trans (hcell j hj)⟩
/-- The rows of a chunk lie in blocks from B on, and not in the block of this slice. -/
def PartsN (B : Nat) (U : Value) (W : World) (c : Ck) (g d it : Value) : Prop :=
  ∀ W' : World, W.heap.size ≤ W'.heap.size → (∀ j, B ≤ j → j < W.heap.size → U.ownBlock ≠ some j → W'.heap[j]? = W.heap[j]?) → Parts W' c g d it
theorem PartsN.now {B : Nat} {U : Value} {W : World} {c : Ck} {g d it : Value} (h : PartsN B U W c g d it) : Parts W c g d it := h W (Nat.le_refl _) fun _ _ _ _ => rfl
theorem PartsN.later {B : Nat} {U : Value} {W W' : World} {c : Ck} {g d it : Value} (h : PartsN B U W c g d it) (hb : Below W.heap.size W W') : PartsN B U W' c g d it :=
  fun W'' hs hk => h W'' (Nat.le_trans hb.size hs) fun j hB hj hU => (hk j hB (Nat.lt_of_lt_of_le hj hb.size) hU).trans (hb.block j hj)
theorem PartsN.new {B : Nat} {U : Value} {W0 W : World} {c : Ck} {g d it : Value} (h : Parts W c g d it) (ha : ∀ j, (g.ownBlock = some j ∨ d.ownBlock = some j ∨ it.ownBlock = some j) → W0.heap.size ≤ j) (hU : ∀ k, U.ownBlock = some k → k < W0.heap.size) (hB : B ≤ W0.heap.size) : PartsN B U W c g d it := by
  intro W' hs hk
  have key : ∀ b, b < W.heap.size → (g.ownBlock = some b ∨ d.ownBlock = some b ∨ it.ownBlock = some b) → W'.heap[b]? = W.heap[b]? := fun b hb ho => hk b (by have := ha b ho; omega) hb fun e => by
    have h1 := ha b ho
    have h2 := hU b e
    omega
  exact ⟨h.gaps.lt hs fun b hb e => key b hb (.inl e), h.dups.lt hs fun b hb e => key b hb (.inr (.inl e)), h.items.lt hs fun b hb e => key b hb (.inr (.inr e))⟩
theorem PartsN.put {B : Nat} {U U' : Value} {W6 W7 : World} {c : Ck} {g d it : Value} (h : PartsN B U W6 c g d it) (hg : W6.grownBy W7 U.ownBlock) (hw : ∀ k, U'.ownBlock = some k → U.ownBlock = some k ∨ k = W6.heap.size) : PartsN B U' W7 c g d it :=
  fun W' hs hk => h W' (Nat.le_trans hg.size hs) fun j hB hj hU => by
    rw [hk j hB (Nat.lt_of_lt_of_le hj hg.size) (fun e => by
      rcases hw j e with h1 | h1
      · exact hU h1
      · omega)]
    exact hg.block j hj (fun e => hU e.symm)
/-- A row of chunks, with all that they lead to, in blocks from B on. -/
def RkB (B : Nat) (W : World) (v : Value) (l : List Cv) : Prop :=
  ∀ W' : World, W.heap.size ≤ W'.heap.size → (∀ j, B ≤ j → j < W.heap.size → W'.heap[j]? = W.heap[j]?) → Rk W' v l
theorem RkB.now {B : Nat} {W : World} {v : Value} {l : List Cv} (h : RkB B W v l) : Rk W v l := h W (Nat.le_refl _) fun _ _ _ => rfl
theorem RkB.later {B : Nat} {W W' : World} {v : Value} {l : List Cv} (h : RkB B W v l) (hb : Below W.heap.size W W') : RkB B W' v l :=
  fun W'' hs hk => h W'' (Nat.le_trans hb.size hs) fun j hB hj => (hk j hB (Nat.lt_of_lt_of_le hj hb.size)).trans (hb.block j hj)
theorem RkB.base {B B' : Nat} {W : World} {v : Value} {l : List Cv} (h : RkB B' W v l) (hB : B ≤ B') : RkB B W v l :=
  fun W' hs hk => h W' hs fun j h1 h2 => hk j (by omega) h2
theorem RkB.nil (B : Nat) (W : World) : RkB B W (.slice none 0 0) [] := fun W' _ _ => Rk.nil W'
/-- The chunks that were read. -/
structure PcS (w : World) (acc : List Cv) (U : Value) (W : World) : Prop where
  row : OwnG W w.heap.size 52 14 U acc.length (flatK acc)
  parts : ∀ x ∈ acc, PartsN w.heap.size U W x.c x.g x.d x.it
  below : Below w.heap.size w W
theorem PcS.later {w W W' : World} {acc : List Cv} {U : Value} (h : PcS w acc U W) (hb : Below W.heap.size W W') : PcS w acc U W' :=
  ⟨h.row.later hb, fun x hx => (h.parts x hx).later hb, h.below.trans (hb.mono h.below.size)⟩
theorem PcS.rk {w W : World} {acc : List Cv} {U : Value} (h : PcS w acc U W) : RkB w.heap.size W U acc := by
  intro W' hs hk
  refine ⟨rowK_of_own (h.row.keep fun k hkk => hk k (h.row.lt k hkk).1 (h.row.lt k hkk).2), fun x hx => h.parts x hx W' hs fun j hB hj _ => hk j hB hj⟩
theorem PcS.put {w W6 W7 : World} {acc : List Cv} {U v7 : Value} {x : Cv} (h : PcS w acc U W6) (hp : PartsN w.heap.size U W6 x.c x.g x.d x.it)
    (ho : OwnG W7 w.heap.size 52 14 v7 (acc.length + 1) (flatK acc ++ x.cells.toList)) (hg : W6.grownBy W7 U.ownBlock) (hw : ∀ k, v7.ownBlock = some k → U.ownBlock = some k ∨ k = W6.heap.size) : PcS w (acc ++ [x]) v7 W7 := by
  refine ⟨?_, ?_, h.below.grown hg h.below.size fun k hk => (h.row.lt k hk).1⟩
  · rw [List.length_append, flatK_append, flatK_one]
    exact ho
  · intro y hy
    rcases List.mem_append.1 hy with hy | hy
    · exact (h.parts y hy).put hg hw
    · obtain rfl := List.mem_singleton.1 hy
      exact hp.put hg hw
def sizeOf8 : Value → Nat
  | .string s => s.size
  | _ => 0
/-- While a chunk is put behind. -/
structure PcR (bc : Nat) (CS : Array Value) (w : World) (W : World) : Prop where
  ck : W.heap[bc]? = some (.cells CS 52 (0, 0))
  below : Below w.heap.size w W
theorem PcR.later {bc : Nat} {CS : Array Value} {w W W' : World} (h : PcR bc CS w W) (hb : Below W.heap.size W W') : PcR bc CS w W' :=
  ⟨(hb.block _ (Array.getElem?_eq_some_iff.1 h.ck).1).trans h.ck, h.below.trans (hb.mono h.below.size)⟩
theorem PcR.range {bc : Nat} {CS : Array Value} {w W : World} (h : PcR bc CS w W) : W.rangeAt bc 0 CS.toList := by
  intro j v hj
  rw [Nat.zero_add, cell_in h.ck]
  simpa using hj
theorem PcR.grown {bc : Nat} {CS : Array Value} {w w1 W W' : World} {U : Value} {n : Nat} {e : TypeId} {size : Nat} {xs : List Value} (h : PcR bc CS w W) (hU : ∀ k, U.ownBlock = some k → k < w1.heap.size) (hlt : w1.heap.size ≤ bc) (hg : W.grownBy W' U.ownBlock) (hr : OwnG W w.heap.size e size U n xs) : PcR bc CS w W' := by
  have hbc := (Array.getElem?_eq_some_iff.1 h.ck).1
  exact ⟨(hg.block _ hbc (fun e => by have := hU _ e.symm; omega)).trans h.ck, h.below.grown hg h.below.size fun k hk => (hr.lt k hk).1⟩
set_option maxHeartbeats 16000000 in
theorem pchunks_any (s : ByteArray) (hs : s.size ≤ 100000) (w : World) :
    Calls Tryz.prog 33 #[.string s] w fun e w' => ∃ v lv, e = .returned (.tuple #[v, .int .i64 ((walkC s.size [] s).2 : Nat)]) ∧ RkB w.heap.size w' v lv ∧ ckV lv = (walkC s.size [] s).1 ∧ Below w.heap.size w w' := by
  generalize hR : walkC s.size [] s = R
  obtain ⟨i0, hi0, hz0, hz1, hz2⟩ := info_parts infoCk8
  have HI := Lib.hid hi0
  have HZ0 := Lib.hid hz0
  have HZ1 := Lib.hid hz1
  have HZ2 := Lib.hid hz2
  have HCS := Lib.hid ckSize
  clear hi0 hz0 hz1 hz2
  have HS0 := Lib.hid (show PcS w [] (.slice none 0 0) w from ⟨OwnG.nil _ _ _ _, by simp, Below.refl _ _⟩)
  go_enter Tryz.func33, Tryz.ntmps33
  go_wp2_with fail
  go_loopw [0, 4] (fun sv lv wr => ∃ (n : Nat) (rest : ByteArray) (acc : List Cv), sv = .string rest ∧ rest.size ≤ n ∧ acc.length + rest.size ≤ 100000 ∧ Hid (PcS w acc lv wr ∧ walkC n (ckV acc) rest = R))
    (fun sv _ _ => sizeOf8 sv)
  case atStart => exact ⟨s.size, s, [], rfl, Nat.le_refl _, by simpa using hs, Lib.hid ⟨HS0.out, hR⟩⟩
  case round =>
    obtain ⟨n, rest, acc, rfl, hn, hac, HQ⟩ := hrel
    obtain ⟨hps, hrr⟩ := HQ.out
    obtain ⟨UA, uk, rfl, -⟩ := hps.row.slice
    by_cases h0 : rest.size = 0
    · have HE := Lib.hid hps
      have hF := (walkC_end n (ckV acc) h0).symm.trans hrr
      subst hF
      have z : ((rest.size : Nat) : Int) = 0 := by omega
      clear hps hrr HQ HS0 hn hac
      go_wp2_with fail
      go_ret2
      exact ⟨_, rfl, acc, HE.out.rk, rfl, HE.out.below⟩
    have z : (0 : Int) < (rest.size : Int) := by omega
    have HE := Lib.hid hps
    have HPA := Lib.hid (ckparse_any rest (by omega) wr)
    by_cases he : (parseC rest).2.2 = 0
    case neg =>
      have hF := (walkC_err (ckV acc) hn h0 he).symm.trans hrr
      have z2 : (((parseC rest).2.2 : Nat) : Int) ≠ 0 := by omega
      generalize (parseC rest).2.2 = e0 at *
      generalize (parseC rest).2.1 = n0 at *
      generalize (parseC rest).1 = c at *
      have HF := Lib.hid hF
      clear hps hrr HQ HS0 hn hac hF
      go_wp2_with fail
      refine HPA.out.mono ?_
      rintro _ w2 ⟨g, d, it, rfl, hp2, -, hb2⟩
      obtain ⟨⟨A1, k1, rfl⟩, ⟨A2, k2, rfl⟩, ⟨A3, k3, rfl⟩⟩ := hp2.slices
      have HB2 := Lib.hid ((HE.out.below.trans (hb2.mono HE.out.below.size)).alloc (Nat.le_trans HE.out.below.size hb2.size) (.cells #[.int .i64 c.type, .int .i64 c.flags, .int .u32 (c.tsn : Int), .int .u32 (c.tag : Int), .int .u32 (c.window : Int), .int .u32 (c.ppid : Int), .int .u16 (c.stream : Int), .int .u16 (c.ssn : Int), .int .u16 (c.outs : Int), .int .u16 (c.ins : Int), .slice A1 c.gaps.length k1, .slice A2 c.dups.length k2, .slice A3 c.items.length k3, .string c.text] 52))
      clear hp2 hb2
      dsimp only [cellsC] at *
      go_wp2_with fail
      go_ret2
      have hF := HF.out
      subst hF
      exact ⟨_, [], rfl, RkB.nil _ _, rfl, HB2.out⟩
    obtain ⟨m, rfl, hgo⟩ := walkC_go (ckV acc) hn h0 he
    obtain ⟨a1, a2, a3, a4, a5, a6, a7⟩ := chunk_again he
    have hF := hgo.symm.trans hrr
    have hcs := cut_size rest (parseC rest).2.1
    have hci := cut_is rest (parseC rest).2.1
    have z5 : ((parseC rest).2.1 : Int) ≤ (rest.size : Int) := by omega
    have z6 : (0 : Int) ≤ ((parseC rest).2.1 : Int) := by omega
    have z7 : 4 ≤ (parseC rest).2.1 := by omega
    have z8 : (parseC rest).2.1 ≤ rest.size := by omega
    rw [he] at HPA
    have HU := Lib.hid (fun k (hk : (Value.slice UA acc.length uk).ownBlock = some k) => (hps.row.lt k hk).2)
    have HF := Lib.hid hF
    generalize cutB rest (parseC rest).2.1 = rest2 at *
    generalize (parseC rest).2.1 = n0 at *
    generalize (parseC rest).1 = c at *
    clear hps hrr HQ HS0 hgo hF a1 a2 a3 a4 a5 a6 a7 he
    go_wp2_with fail
    refine HPA.out.mono ?_
    rintro _ w2 ⟨g, d, it, rfl, hp2, ha2, hb2⟩
    have HPN := Lib.hid (PartsN.new (B := w.heap.size) hp2 ha2 HU.out HE.out.below.size)
    obtain ⟨⟨A1, k1, rfl⟩, ⟨A2, k2, rfl⟩, ⟨A3, k3, rfl⟩⟩ := hp2.slices
    have HE2 := Lib.hid (HE.out.later hb2)
    have hlt2 := hb2.size
    have HR0 := Lib.hid (show PcR w2.heap.size #[.int .i64 c.type, .int .i64 c.flags, .int .u32 (c.tsn : Int), .int .u32 (c.tag : Int), .int .u32 (c.window : Int), .int .u32 (c.ppid : Int), .int .u16 (c.stream : Int), .int .u16 (c.ssn : Int), .int .u16 (c.outs : Int), .int .u16 (c.ins : Int), .slice A1 c.gaps.length k1, .slice A2 c.dups.length k2, .slice A3 c.items.length k3, .string c.text] w (w2.alloc (.cells #[.int .i64 c.type, .int .i64 c.flags, .int .u32 (c.tsn : Int), .int .u32 (c.tag : Int), .int .u32 (c.window : Int), .int .u32 (c.ppid : Int), .int .u16 (c.stream : Int), .int .u16 (c.ssn : Int), .int .u16 (c.outs : Int), .int .u16 (c.ins : Int), .slice A1 c.gaps.length k1, .slice A2 c.dups.length k2, .slice A3 c.items.length k3, .string c.text] 52)) from ⟨heap_alloc_new _ _, HE2.out.below.alloc HE2.out.below.size _⟩)
    clear hp2 ha2 hb2 HE HPA
    dsimp only [cellsC] at *
    go_wp2_with fail
    refine wp_region_noPanic ?_
    refine wp_region_held_drew (S := (PcR w2.heap.size #[.int .i64 c.type, .int .i64 c.flags, .int .u32 (c.tsn : Int), .int .u32 (c.tag : Int), .int .u32 (c.window : Int), .int .u32 (c.ppid : Int), .int .u16 (c.stream : Int), .int .u16 (c.ssn : Int), .int .u16 (c.outs : Int), .int .u16 (c.ins : Int), .slice A1 c.gaps.length k1, .slice A2 c.dups.length k2, .slice A3 c.items.length k3, .string c.text] w)) (by kernel_rfl) ?_ (fun hHeld => ?_)
    · exact HR0.out.later (Below.refl _ _).drew
    refine k9 0 ?_ (y := ?_) (h := ?_)
    rotate_left 1
    · (intro w' hSw; (try dsimp only at hSw); go_simp; try with_reducible rfl)
    try simp only [Act.put, p9a, p9z, p9s]
    refine k7 1 _ (y := yieldsIf_load_mid (by rfl) 52 (.tmp 5) rfl w2.heap.size 0 (by rfl) #[.int .i64 c.type, .int .i64 c.flags, .int .u32 (c.tsn : Int), .int .u32 (c.tag : Int), .int .u32 (c.window : Int), .int .u32 (c.ppid : Int), .int .u16 (c.stream : Int), .int .u16 (c.ssn : Int), .int .u16 (c.outs : Int), .int .u16 (c.ins : Int), .slice A1 c.gaps.length k1, .slice A2 c.dups.length k2, .slice A3 c.items.length k3, .string c.text].toList _ (fun W h => h.range) Tryz.underlying52 rfl HCS.out) (h := ?_)
    try simp only [Act.put, p9a, p9z, p9s]
    refine k9 4 ?_ (y := ?_) (h := ?_)
    rotate_left 1
    · (intro w' hSw; (try dsimp only at hSw); go_simp; try with_reducible rfl)
    try simp only [Act.put, p9a, p9z, p9s]
    refine k9 5 ?_ (y := ?_) (h := ?_)
    rotate_left 1
    · (intro w' hSw; (try dsimp only at hSw); go_simp; try with_reducible rfl)
    try simp only [Act.put, p9a, p9z, p9s]
    refine k9 6 ?_ (y := ?_) (h := ?_)
    rotate_left 1
    · (intro w' hSw; (try dsimp only at hSw); go_simp; try with_reducible rfl)
    try simp only [Act.put, p9a, p9z, p9s]
    refine wpAnyH_ready (rs := [2]) (by kernel_rfl) (by simp) ?_
    refine AllReadyH.cons (by simp only [q9a, q9s, q9z]; rfl) (fun K hK => ?_) AllReadyH.nil
    have hS : PcR w2.heap.size #[.int .i64 c.type, .int .i64 c.flags, .int .u32 (c.tsn : Int), .int .u32 (c.tag : Int), .int .u32 (c.window : Int), .int .u32 (c.ppid : Int), .int .u16 (c.stream : Int), .int .u16 (c.ssn : Int), .int .u16 (c.outs : Int), .int .u16 (c.ins : Int), .slice A1 c.gaps.length k1, .slice A2 c.dups.length k2, .slice A3 c.items.length k3, .string c.text] w _ := PcR.later hHeld ((Below.refl _ _).alloc (Nat.le_refl _) (.cells #[.int .i64 c.type, .int .i64 c.flags, .int .u32 (c.tsn : Int), .int .u32 (c.tag : Int), .int .u32 (c.window : Int), .int .u32 (c.ppid : Int), .int .u16 (c.stream : Int), .int .u16 (c.ssn : Int), .int .u16 (c.outs : Int), .int .u16 (c.ins : Int), .slice A1 c.gaps.length k1, .slice A2 c.dups.length k2, .slice A3 c.items.length k3, .string c.text] 52))
    clear hHeld
    go_simp
    refine hK.out _ _ ?_ (fun hHeld => ?_)
    · exact hS
    clear hK K
    try simp only [Act.put, p9a, p9z, p9s]
    refine wpAnyH_ready (rs := [3]) (by kernel_rfl) (by simp) ?_
    refine AllReadyH.cons (by simp only [q9a, q9s, q9z]; rfl) (fun K hK => ?_) AllReadyH.nil
    have HE6 := Lib.hid ((HE2.out.later ((Below.refl _ _).alloc (Nat.le_refl _) (.cells #[.int .i64 c.type, .int .i64 c.flags, .int .u32 (c.tsn : Int), .int .u32 (c.tag : Int), .int .u32 (c.window : Int), .int .u32 (c.ppid : Int), .int .u16 (c.stream : Int), .int .u16 (c.ssn : Int), .int .u16 (c.outs : Int), .int .u16 (c.ins : Int), .slice A1 c.gaps.length k1, .slice A2 c.dups.length k2, .slice A3 c.items.length k3, .string c.text] 52))).later ((Below.refl _ (w2.alloc (.cells #[.int .i64 c.type, .int .i64 c.flags, .int .u32 (c.tsn : Int), .int .u32 (c.tag : Int), .int .u32 (c.window : Int), .int .u32 (c.ppid : Int), .int .u16 (c.stream : Int), .int .u16 (c.ssn : Int), .int .u16 (c.outs : Int), .int .u16 (c.ins : Int), .slice A1 c.gaps.length k1, .slice A2 c.dups.length k2, .slice A3 c.items.length k3, .string c.text] 52))).drew.alloc (Nat.le_refl _) (.cells #[.int .i64 c.type, .int .i64 c.flags, .int .u32 (c.tsn : Int), .int .u32 (c.tag : Int), .int .u32 (c.window : Int), .int .u32 (c.ppid : Int), .int .u16 (c.stream : Int), .int .u16 (c.ssn : Int), .int .u16 (c.outs : Int), .int .u16 (c.ins : Int), .slice A1 c.gaps.length k1, .slice A2 c.dups.length k2, .slice A3 c.items.length k3, .string c.text] 52)))
    have HPN6 := Lib.hid ((HPN.out.later ((Below.refl _ _).alloc (Nat.le_refl _) (.cells #[.int .i64 c.type, .int .i64 c.flags, .int .u32 (c.tsn : Int), .int .u32 (c.tag : Int), .int .u32 (c.window : Int), .int .u32 (c.ppid : Int), .int .u16 (c.stream : Int), .int .u16 (c.ssn : Int), .int .u16 (c.outs : Int), .int .u16 (c.ins : Int), .slice A1 c.gaps.length k1, .slice A2 c.dups.length k2, .slice A3 c.items.length k3, .string c.text] 52))).later ((Below.refl _ (w2.alloc (.cells #[.int .i64 c.type, .int .i64 c.flags, .int .u32 (c.tsn : Int), .int .u32 (c.tag : Int), .int .u32 (c.window : Int), .int .u32 (c.ppid : Int), .int .u16 (c.stream : Int), .int .u16 (c.ssn : Int), .int .u16 (c.outs : Int), .int .u16 (c.ins : Int), .slice A1 c.gaps.length k1, .slice A2 c.dups.length k2, .slice A3 c.items.length k3, .string c.text] 52))).drew.alloc (Nat.le_refl _) (.cells #[.int .i64 c.type, .int .i64 c.flags, .int .u32 (c.tsn : Int), .int .u32 (c.tag : Int), .int .u32 (c.window : Int), .int .u32 (c.ppid : Int), .int .u16 (c.stream : Int), .int .u16 (c.ssn : Int), .int .u16 (c.outs : Int), .int .u16 (c.ins : Int), .slice A1 c.gaps.length k1, .slice A2 c.dups.length k2, .slice A3 c.items.length k3, .string c.text] 52)))
    have HONE5 := Lib.hid (ck_ones c A1 A2 A3 k1 k2 k3)
    refine step_append_where _ (by rfl) (.tmp 20) (.tmp 22) 24 24 (by rfl) w.heap.size HE6.out.below.size 52 i0 _ 14 128 Tryz.underlying24 (.inr ⟨_, Tryz.underlying24⟩) HI.out HZ0.out HZ1.out HZ2.out rfl _ acc.length _ (by rfl) HE6.out.row (.slice (some ⟨w2.heap.size + 1, 0, none⟩) 1 1) 1 [.int .i64 c.type, .int .i64 c.flags, .int .u32 (c.tsn : Int), .int .u32 (c.tag : Int), .int .u32 (c.window : Int), .int .u32 (c.ppid : Int), .int .u16 (c.stream : Int), .int .u16 (c.ssn : Int), .int .u16 (c.outs : Int), .int .u16 (c.ins : Int), .slice A1 c.gaps.length k1, .slice A2 c.dups.length k2, .slice A3 c.items.length k3, .string c.text] (by rfl) (Fed.block (heap_new_at _ _ (by show (w2.alloc _).heap.size = _; rw [World.size_alloc])) rfl HONE5.out) (by simp only [maxLen]; omega) (by omega) ?_
    intro v7 w7 hown7 hg7 hw7
    have HN := Lib.hid (PcS.put (x := ⟨c, .slice A1 c.gaps.length k1, .slice A2 c.dups.length k2, .slice A3 c.items.length k3⟩) HE6.out HPN6.out hown7 hg7 hw7)
    obtain ⟨VA, vk, rfl, -⟩ := hown7.slice
    have hS := hHeld.grown HU.out hlt2 hg7 HE6.out.row
    clear hown7 hg7 hw7 hHeld
    refine hK.out _ _ ?_ (fun hHeld => ?_)
    · exact hS
    clear hK K
    try simp only [Act.put, p9a, p9z, p9s]
    refine k9 7 ?_ (y := ?_) (h := ?_)
    rotate_left 1
    · (intro w' hSw; (try dsimp only at hSw); go_simp; try with_reducible rfl)
    try simp only [Act.put, p9a, p9z, p9s]
    refine k9 8 ?_ (y := ?_) (h := ?_)
    rotate_left 1
    · (intro w' hSw; (try dsimp only at hSw); go_simp; try with_reducible rfl)
    try simp only [Act.put, p9a, p9z, p9s]
    refine wpAnyH_done (by kernel_rfl) ?_ _
    refine NoPanic.normal ?_
    clear hHeld hS
    go_wp2_with fail
    go_roundw
    case rel => exact ⟨m, rest2, acc ++ [⟨c, .slice A1 c.gaps.length k1, .slice A2 c.dups.length k2, .slice A3 c.items.length k3⟩], by rfl, by omega, by rw [List.length_append, List.length_singleton]; omega, Lib.hid ⟨HN.out, by have := HF.out; simpa [ckV] using this⟩⟩
    case measure => simp only [sizeOf8]; omega
end Go.Proofs.YtlbaockipeojhaaGreat
