/-
  A builder that is written: a byte, a text, numbers of all sizes; of all that is no row of bytes nothing but the builder turns: contracts. How many bits numbers of each size have: contracts. Chunks in memory: their fourteen cells, and the rows that they lead to.
-/
import Derived.Test.YtlbaockipeojhaaGreatRow
import Derived.Test.YtlbaockipeojhaaGreatCk
import Derived.Shelf.Strings.BuilderK
import Derived.Deep.RegionHeld3
section
namespace Go.Proofs.YtlbaockipeojhaaGreat
open Go.Shelf Go.RowKit
set_option linter.unusedVariables false

def ren167 : Go.Shelf.Ren := ⟨fun | 167 => 81 | 240 => 41 | 276 => 65 | n => n, ren166.t, fun n => n⟩
theorem lays167 : Go.Proofs.Lays.n167 Tryz.prog ren167 := {
  mixed := by kernel_rfl
  f167 := Tryz.func81.trans (congrArg some (by kernel_rfl))
  f240 := Tryz.func41.trans (congrArg some (by kernel_rfl))
  f276 := Tryz.func65.trans (congrArg some (by kernel_rfl))
  t0 := Tryz.underlying0
  a0 := Tryz.isAgg0
  z0 := Tryz.sizeOf0
  v0 := Tryz.zeroValue0
  t4 := Tryz.underlying4
  a4 := Tryz.isAgg4
  z4 := Tryz.sizeOf4
  v4 := Tryz.zeroValue4
  t5 := Tryz.underlying5
  a5 := Tryz.isAgg5
  z5 := Tryz.sizeOf5
  v5 := Tryz.zeroValue5
  t9 := Tryz.underlying9
  a9 := Tryz.isAgg9
  z9 := Tryz.sizeOf9
  v9 := Tryz.zeroValue9
  t20 := Tryz.underlying20
  a20 := Tryz.isAgg20
  z20 := Tryz.sizeOf20
  v20 := Tryz.zeroValue20
  t37 := Tryz.underlying47
  a37 := Tryz.isAgg47
  z37 := Tryz.sizeOf47
  v37 := Tryz.zeroValue47
  t70 := Tryz.underlying56
  a70 := Tryz.isAgg56
  z70 := Tryz.sizeOf56
  v70 := Tryz.zeroValue56
  t72 := Tryz.underlying58
  a72 := Tryz.isAgg58
  z72 := Tryz.sizeOf58
  v72 := Tryz.zeroValue58
  t75 := Tryz.underlying60
  a75 := Tryz.isAgg60
  z75 := Tryz.sizeOf60
  v75 := Tryz.zeroValue60
  t164 := Tryz.underlying109
  a164 := Tryz.isAgg109
  z164 := Tryz.sizeOf109
  v164 := Tryz.zeroValue109 }
theorem extra167 : Builder.Extra Tryz.prog ren167 := {
  sizeBuilder := by kernel_rfl
  liesBuilder := by kernel_rfl
  t5 := Tryz.underlying5
  a5 := Tryz.isAgg5
  z5 := Tryz.sizeOf5
  v5 := Tryz.zeroValue5
  infoByte := by kernel_rfl
  cellsByte := by kernel_rfl
  sizeByte := by kernel_rfl
  neB5 := by decide }

/-- The builder in block b holds these bytes. -/
def Bd (w : World) (B b : Nat) (l : List UInt8) : Prop := Lib.IsBuilderF 58 5 B b (Lib.byteCells l) w
/-- Written: below B nothing has turned, and above it no block but b and rows of bytes. -/
def Wrote (B b : Nat) (w w' : World) : Prop := Below B w w' ∧ Lib.OthersKept 5 (some b) w w'
theorem Wrote.refl (B b : Nat) (w : World) : Wrote B b w w := ⟨Below.refl _ _, Lib.OthersKept.refl _ _ _⟩
theorem Wrote.trans {B b : Nat} {a c d : World} (h : Wrote B b a c) (k : Wrote B b c d) : Wrote B b a d := ⟨h.1.trans k.1, h.2.trans k.2⟩
theorem Wrote.alloc {B b : Nat} {a c : World} (h : Wrote B b a c) (hB : B ≤ c.heap.size) (o : Obj) : Wrote B b a (c.alloc o) := ⟨h.1.alloc hB o, h.2.alloc o⟩
theorem Wrote.drew {B b : Nat} {a c : World} (h : Wrote B b a c) : Wrote B b a c.drew := ⟨h.1.drew, h.2.drew⟩
theorem Wrote.size {B b : Nat} {a c : World} (h : Wrote B b a c) : a.heap.size ≤ c.heap.size := h.1.size
theorem Wrote.block {B b k : Nat} {a c : World} {cs : Array Value} {t : TypeId} {fz : Nat × Nat} (h : Wrote B b a c) (hk : a.heap[k]? = some (.cells cs t fz)) (hb : k ≠ b) (ht : t ≠ 5) : c.heap[k]? = some (.cells cs t fz) :=
  h.2 k _ hk (by simpa using hb) (by rintro c' fz' e; injection e with _ e2 _; exact ht e2)
theorem bd_fresh (w : World) : Bd (w.alloc (.cells #[.pointer none, .slice none 0 0] 58)) w.heap.size w.heap.size [] := Lib.IsBuilderF.of (Lib.fresh_isBuilder 58 5 w)
theorem Bd.lt {w : World} {B b : Nat} {l : List UInt8} (h : Bd w B b l) : b < w.heap.size := by
  rcases h with ⟨_, v, hb, _⟩ | ⟨_, v, hb, _⟩
  · exact (Array.getElem?_eq_some_iff.1 hb).1
  · exact (Array.getElem?_eq_some_iff.1 hb).1
theorem Bd.base {w : World} {B b : Nat} {l : List UInt8} (h : Bd w B b l) : B ≤ b := by
  rcases h with ⟨h, _⟩ | ⟨h, _⟩
  · exact h
  · exact h
theorem ownF_keep {w w' : World} {B : Nat} {e : TypeId} {v : Value} {n : Nat} {xs : List Value} (h : w.ownsRowF B e 1 v n xs) (hk : ∀ k, v.ownBlock = some k → w'.heap[k]? = w.heap[k]?) : w'.ownsRowF B e 1 v n xs := by
  refine ⟨h.1, ?_⟩
  rcases h.2 with h0 | ⟨g, cap, cur, fz, rfl, hb, hg, r⟩
  · exact .inl h0
  · exact .inr ⟨g, cap, cur, fz, rfl, hb, (hk g rfl).trans hg, r⟩
theorem ownF_lt {w : World} {B : Nat} {e : TypeId} {v : Value} {n : Nat} {xs : List Value} (h : w.ownsRowF B e 1 v n xs) : ∀ k, v.ownBlock = some k → k < w.heap.size := by
  intro k hk
  obtain ⟨c, fz, hc⟩ := Lib.ownsRowF_kind h k hk
  exact (Array.getElem?_eq_some_iff.1 hc).1
/-- What is new turns no builder. -/
theorem Bd.later {w w' : World} {B b : Nat} {l : List UInt8} (h : Bd w B b l) (hb : Below w.heap.size w w') : Bd w' B b l := by
  rcases h with ⟨h1, v, h2, h3, h4⟩ | ⟨h1, v, h2, h3, h4⟩
  · exact .inl ⟨h1, v, (hb.block b (Array.getElem?_eq_some_iff.1 h2).1).trans h2, ownF_keep h3 fun k hk => hb.block k (ownF_lt h3 k hk), h4⟩
  · exact .inr ⟨h1, v, (hb.block b (Array.getElem?_eq_some_iff.1 h2).1).trans h2, ownF_keep h3 fun k hk => hb.block k (ownF_lt h3 k hk), h4⟩
theorem Bd.alloc {w : World} {B b : Nat} {l : List UInt8} (h : Bd w B b l) (o : Obj) : Bd (w.alloc o) B b l := h.later ((Below.refl _ _).alloc (Nat.le_refl _) _)

theorem byteCells_app (l m : List UInt8) : Lib.byteCells (l ++ m) = Lib.byteCells l ++ Lib.byteCells m := by simp [Lib.byteCells]
theorem strCells_list (s : ByteArray) : Lib.strCells s = Lib.byteCells s.data.toList := by simp [Lib.strCells, Lib.byteCells]
theorem byteCells_len (l : List UInt8) : (Lib.byteCells l).length = l.length := by simp [Lib.byteCells]
theorem byte_any (B b : Nat) (l : List UInt8) (x : Int) (c : UInt8) (hx : x = (c.toNat : Int)) (w : World) (h : Bd w B b l) (hlen : l.length < 100000000) (hBw : B ≤ w.heap.size) :
    Calls Tryz.prog 81 #[.pointer (some ⟨b, 0, none⟩), .int .u8 x] w fun e w' => e = .returned .nilIface ∧ Bd w' B b (l ++ [c]) ∧ Wrote B b w w' := by
  refine (Any.Builder_WriteByte_k lays167 extra167 B b _ x w h (by rw [byteCells_len]; omega) hBw).mono ?_
  rintro e w' ⟨rfl, h1, h2, h3⟩
  refine ⟨rfl, ?_, h2, h3⟩
  have e : Lib.byteCells l ++ [.int .u8 x] = Lib.byteCells (l ++ [c]) := by rw [byteCells_app, hx]; rfl
  rw [e] at h1
  exact .inr h1
theorem string_any (B b : Nat) (l : List UInt8) (s : ByteArray) (w : World) (h : Bd w B b l) (hlen : l.length + s.size < 100000000) (hBw : B ≤ w.heap.size) :
    Calls Tryz.prog 20 #[.pointer (some ⟨b, 0, none⟩), .string s] w fun e w' => e = .returned (.tuple #[.int .i64 s.size, .nilIface]) ∧ Bd w' B b (l ++ s.data.toList) ∧ Wrote B b w w' := by
  refine (Any.Builder_WriteString_k lays166 extra166 B b _ s w h (by rw [byteCells_len]; omega) hBw).mono ?_
  rintro e w' ⟨rfl, h1, h2, h3⟩
  refine ⟨rfl, ?_, h2, h3⟩
  rw [strCells_list, ← byteCells_app] at h1
  exact .inr h1
theorem told_any (B b : Nat) (l : List UInt8) (w : World) (h : Bd w B b l) (hBw : B ≤ w.heap.size) :
    Calls Tryz.prog 25 #[.pointer (some ⟨b, 0, none⟩)] w fun e w' => e = .returned (.string ⟨l.toArray⟩) ∧ Bd w' B b l ∧ Wrote B b w w' :=
  (Any.Builder_String_any_k Tryz.lays169 Tryz.Builder_Extra_169 B b l w h hBw).mono fun _ _ ⟨h1, h2, h3, h4⟩ => ⟨h1, h2, h3, h4⟩
end Go.Proofs.YtlbaockipeojhaaGreat
end
section
namespace Go.Proofs.YtlbaockipeojhaaGreat
open Go.RowKit
set_option linter.unusedVariables false

set_option maxRecDepth 100000 in
theorem len_8 (w : World) : Calls Tryz.prog 109 #[.int .u32 255] w fun e w' => e = .returned (.int .i64 8) ∧ w' = w := by
  go_enter Tryz.func109, Tryz.ntmps109
  go_wp2
  go_ret
  exact ⟨congrArg Ending.returned (congrArg (Value.int IntKind.i64) (by decide +kernel)), rfl⟩
set_option maxRecDepth 100000 in
theorem len_16 (w : World) : Calls Tryz.prog 109 #[.int .u32 65535] w fun e w' => e = .returned (.int .i64 16) ∧ w' = w := by
  go_enter Tryz.func109, Tryz.ntmps109
  go_wp2
  go_ret
  exact ⟨congrArg Ending.returned (congrArg (Value.int IntKind.i64) (by decide +kernel)), rfl⟩
set_option maxRecDepth 100000 in
theorem len_32 (w : World) : Calls Tryz.prog 109 #[.int .u32 4294967295] w fun e w' => e = .returned (.int .i64 32) ∧ w' = w := by
  go_enter Tryz.func109, Tryz.ntmps109
  go_wp2
  go_ret
  exact ⟨congrArg Ending.returned (congrArg (Value.int IntKind.i64) (by decide +kernel)), rfl⟩
set_option maxRecDepth 100000 in
theorem bits_8 (w : World) : Calls Tryz.prog 80 #[] w fun e w' => e = .returned (.int .i64 8) ∧ w' = w := by
  have H := Lib.hid (fun W => len_8 W)
  have hs : IntKind.u8.signed = false := rfl
  have hx : bits BinOp.xor IntKind.u8 IntKind.u8.max 0 = 255 := by decide +kernel
  go_enter Tryz.func80, Tryz.ntmps80
  go_wp2_with (go_at_call 109; ((with_reducible refine (H.out _).mono ?_); rintro e w1 ⟨rfl, rfl⟩))
  go_ret
  exact ⟨rfl, rfl⟩
set_option maxRecDepth 100000 in
theorem bits_16 (w : World) : Calls Tryz.prog 82 #[] w fun e w' => e = .returned (.int .i64 16) ∧ w' = w := by
  have H := Lib.hid (fun W => len_16 W)
  have hs : IntKind.u16.signed = false := rfl
  have hx : bits BinOp.xor IntKind.u16 IntKind.u16.max 0 = 65535 := by decide +kernel
  go_enter Tryz.func82, Tryz.ntmps82
  go_wp2_with (go_at_call 109; ((with_reducible refine (H.out _).mono ?_); rintro e w1 ⟨rfl, rfl⟩))
  go_ret
  exact ⟨rfl, rfl⟩
set_option maxRecDepth 100000 in
theorem bits_32 (w : World) : Calls Tryz.prog 120 #[] w fun e w' => e = .returned (.int .i64 32) ∧ w' = w := by
  have H := Lib.hid (fun W => len_32 W)
  have hs : IntKind.u32.signed = false := rfl
  have hx : bits BinOp.xor IntKind.u32 IntKind.u32.max 0 = 4294967295 := by decide +kernel
  go_enter Tryz.func120, Tryz.ntmps120
  go_wp2_with (go_at_call 109; ((with_reducible refine (H.out _).mono ?_); rintro e w1 ⟨rfl, rfl⟩))
  go_ret
  exact ⟨rfl, rfl⟩

end Go.Proofs.YtlbaockipeojhaaGreat
end
section
namespace Go.Proofs.YtlbaockipeojhaaGreat
open Go.RowKit
set_option linter.unusedVariables false

/-- The cells of a chunk whose gaps, dups and items lie in these slices. -/
abbrev cellsC (c : Ck) (g d i : Value) : Array Value :=
  #[.int .i64 c.type, .int .i64 c.flags, .int .u32 (c.tsn : Int), .int .u32 (c.tag : Int), .int .u32 (c.window : Int), .int .u32 (c.ppid : Int), .int .u16 (c.stream : Int), .int .u16 (c.ssn : Int), .int .u16 (c.outs : Int), .int .u16 (c.ins : Int), g, d, i, .string c.text]
def flatG (l : List (Nat × Nat)) : List Value := l.flatMap fun x => [.int .u16 (x.1 : Int), .int .u16 (x.2 : Int)]
theorem flatG_length (l : List (Nat × Nat)) : (flatG l).length = l.length * 2 := by
  induction l with
  | nil => rfl
  | cons p ps ih => simp only [flatG, List.flatMap_cons, List.length_append, List.length_cons, List.length_nil] at ih ⊢; omega
theorem flatG_append (l m : List (Nat × Nat)) : flatG (l ++ m) = flatG l ++ flatG m := by simp [flatG]
theorem flatG_one (l : List (Nat × Nat)) : ∀ u ∈ flatG l, u.oneCell' = true := by
  intro u hu
  obtain ⟨x, _, hx⟩ := List.mem_flatMap.1 hu
  simp only [List.mem_cons, List.not_mem_nil, or_false] at hx
  rcases hx with rfl | rfl <;> rfl
theorem flatG_at (l : List (Nat × Nat)) (i : Nat) (h : i < l.length) : (flatG l)[i * 2]? = some (.int .u16 (l[i].1 : Int)) ∧ (flatG l)[i * 2 + 1]? = some (.int .u16 (l[i].2 : Int)) := by
  induction l generalizing i with
  | nil => simp at h
  | cons p ps ih =>
    cases i with
    | zero => simp [flatG]
    | succ i =>
      have := ih i (by simpa using h)
      simp only [flatG, List.flatMap_cons] at this ⊢
      rw [show (i + 1) * 2 = i * 2 + 2 by omega]
      simpa using this
/-- The slice v reads as these gaps; nil and empty ones let in. -/
def RowG (w : World) (v : Value) (l : List (Nat × Nat)) : Prop :=
  ∃ (A : Option Addr) (cap : Nat), v = .slice A l.length cap ∧ l.length ≤ cap ∧ cap ≤ maxLen ∧ (0 < l.length → ∃ b off, A = some ⟨b, off, none⟩ ∧ b < w.heap.size ∧ ∀ j (h : j < l.length), w.cell? ⟨b, off + j * 2, none⟩ = some (.int .u16 (l[j].1 : Int)) ∧ w.cell? ⟨b, off + j * 2 + 1, none⟩ = some (.int .u16 (l[j].2 : Int)))
theorem RowG.below {w w' : World} {v : Value} {l : List (Nat × Nat)} (h : RowG w v l) (hb : Below w.heap.size w w') : RowG w' v l := by
  obtain ⟨A, cap, rfl, hc, hm, h⟩ := h
  refine ⟨A, cap, rfl, hc, hm, fun hl => ?_⟩
  obtain ⟨b, off, rfl, hlt, hcell⟩ := h hl
  exact ⟨b, off, rfl, Nat.lt_of_lt_of_le hlt hb.size, fun j hj => ⟨(hb.cell (p := ⟨b, off + j * 2, none⟩) hlt).trans (hcell j hj).1, (hb.cell (p := ⟨b, off + j * 2 + 1, none⟩) hlt).trans (hcell j hj).2⟩⟩
theorem RowG.nil (w : World) : RowG w (.slice none 0 0) [] := ⟨none, 0, rfl, Nat.le_refl _, Nat.zero_le _, fun h => absurd h (by simp)⟩
theorem rowG_of_own {w : World} {base n : Nat} {e : TypeId} {v : Value} {l : List (Nat × Nat)} (h : OwnG w base e 2 v n (flatG l)) : RowG w v l := by
  have hl : l.length = n := by have := h.1; rw [flatG_length] at this; omega
  subst hl
  rcases h.2 with ⟨rfl, h0⟩ | ⟨g, cap, cur, fz, rfl, hb, hh, h1, h2, _⟩
  · exact ⟨none, 0, by rw [h0], by omega, Nat.zero_le _, fun hp => by omega⟩
  · refine ⟨_, cap, rfl, h1, h2, fun _ => ⟨g, 0, rfl, (Array.getElem?_eq_some_iff.1 hh).1, fun j hj => ?_⟩⟩
    obtain ⟨e1, e2⟩ := flatG_at l j hj
    rw [Nat.zero_add]
    exact ⟨h.cells _ _ e1, h.cells _ _ e2⟩
/-- A number of 32 bits as a cell; rows of such. -/
def encN (n : Nat) : Value := .int .u32 (n : Int)
def RowN (w : World) (v : Value) (l : List Nat) : Prop := RowE encN w v l
theorem RowN.below {w w' : World} {v : Value} {l : List Nat} (h : RowN w v l) (hb : Below w.heap.size w w') : RowN w' v l := RowE.below h hb
theorem RowN.nil (w : World) : RowN w (.slice none 0 0) [] := RowE.nil encN w
theorem rowN_of_own {w : World} {base n : Nat} {e : TypeId} {v : Value} {l : List Nat} (h : OwnG w base e 1 v n (l.map encN)) : RowN w v l := by
  have hl : l.length = n := by have := h.1; simpa using this
  subst hl
  rcases h.2 with ⟨rfl, h0⟩ | ⟨g, cap, cur, fz, rfl, hb, hh, h1, h2, _⟩
  · exact ⟨none, 0, by rw [h0], by omega, Nat.zero_le _, fun hp => by omega⟩
  · refine ⟨_, cap, rfl, h1, h2, fun _ => ⟨g, 0, rfl, (Array.getElem?_eq_some_iff.1 hh).1, fun j hj => ?_⟩⟩
    rw [Nat.zero_add]
    refine h.cells _ _ ?_
    rw [List.getElem?_map, List.getElem?_eq_getElem hj, getElem!_pos l j hj]
    rfl
/-- The slices of a chunk read as what it has. -/
structure Parts (w : World) (c : Ck) (g d i : Value) : Prop where
  gaps : RowG w g c.gaps
  dups : RowN w d c.dups
  items : RowI w i c.items
theorem Parts.below {w w' : World} {c : Ck} {g d i : Value} (h : Parts w c g d i) (hb : Below w.heap.size w w') : Parts w' c g d i := ⟨h.gaps.below hb, h.dups.below hb, h.items.below hb⟩
theorem Parts.zero (w : World) (k f : Int) : Parts w (zeroC k f) (.slice none 0 0) (.slice none 0 0) (.slice none 0 0) := ⟨RowG.nil w, RowN.nil w, RowI.nil w⟩
theorem Parts.slices {w : World} {c : Ck} {g d i : Value} (h : Parts w c g d i) : (∃ A k, g = .slice A c.gaps.length k) ∧ (∃ A k, d = .slice A c.dups.length k) ∧ (∃ A k, i = .slice A c.items.length k) := by
  obtain ⟨⟨A, k, h1, _⟩, ⟨A', k', h2, _⟩, ⟨A'', k'', h3, _⟩⟩ := h
  exact ⟨⟨A, k, h1⟩, ⟨A', k', h2⟩, ⟨A'', k'', h3⟩⟩
theorem Parts.one {w : World} {c : Ck} {g d i : Value} (h : Parts w c g d i) : (cellsC c g d i).all (·.oneCell') = true := by
  obtain ⟨⟨A, k, rfl⟩, ⟨A', k', rfl⟩, ⟨A'', k'', rfl⟩⟩ := h.slices
  simp [Value.oneCell']

/-- Of what was there only blocks of S have turned; nothing is new. -/
structure Touch (S : Nat → Prop) (w w' : World) : Prop where
  os : w'.os = w.os
  tape : w'.tape = w.tape
  output : w'.output = w.output
  size : w'.heap.size = w.heap.size
  block : ∀ k, ¬ S k → w'.heap[k]? = w.heap[k]?
theorem Touch.refl (S : Nat → Prop) (w : World) : Touch S w w := ⟨rfl, rfl, rfl, rfl, fun _ _ => rfl⟩
theorem Touch.trans {S : Nat → Prop} {a b c : World} (h : Touch S a b) (k : Touch S b c) : Touch S a c :=
  ⟨k.os.trans h.os, k.tape.trans h.tape, k.output.trans h.output, k.size.trans h.size, fun i hi => (k.block i hi).trans (h.block i hi)⟩
theorem Touch.mono {S T : Nat → Prop} {a b : World} (h : Touch S a b) (hST : ∀ k, S k → T k) : Touch T a b := ⟨h.os, h.tape, h.output, h.size, fun k hk => h.block k fun hs => hk (hST k hs)⟩
theorem Touch.setCell (w : World) (b o : Nat) (v : Value) : Touch (· = b) w (w.setCell ⟨b, o, none⟩ v) :=
  ⟨rfl, rfl, rfl, by simp [World.setCell], fun k hk => Below.heap_setCell _ _ _ _ hk⟩
theorem Touch.below {S : Nat → Prop} {a b : World} {B : Nat} (h : Touch S a b) (hS : ∀ k, S k → B ≤ k) : Below B a b :=
  ⟨h.os, h.tape, h.output, by rw [h.size]; exact Nat.le_refl _, fun k hk => h.block k fun hs => absurd (hS k hs) (by omega)⟩
theorem row_set {w : World} {b : Nat} {cs : Array Value} {t : TypeId} {fz : Nat × Nat} (h : w.heap[b]? = some (.cells cs t fz)) (i : Nat) (v : Value) : (w.setCell ⟨b, i, none⟩ v).heap[b]? = some (.cells (cs.setIfInBounds i v) t fz) := by
  simp [World.setCell, Array.getElem?_modify, h]
theorem cell_in {w : World} {b : Nat} {cs : Array Value} {t : TypeId} {fz : Nat × Nat} (h : w.heap[b]? = some (.cells cs t fz)) (i : Nat) : w.cell? ⟨b, i, none⟩ = cs[i]? := cell_of_row w b i cs t fz h
end Go.Proofs.YtlbaockipeojhaaGreat
end
