/-
  A builder that is written: a byte, a text, numbers of all sizes; of all that is no row of bytes nothing but the builder turns: contracts.
-/
import Derived.Shelf.Strings.BuilderK
import Derived.Test.YthfiebdpoleeeaaDoorBuilder
namespace Go.Proofs.YthfiebdpoleeeaaDoor
open Go.Shelf Go.RowKit
set_option linter.unusedVariables false

def ren167 : Go.Shelf.Ren := ⟨fun | 167 => 57 | 240 => 58 | 276 => 67 | n => n, ren166.t, fun n => n⟩
theorem lays167 : Go.Proofs.Lays.n167 Tryd.prog ren167 := {
  mixed := by kernel_rfl
  f167 := Tryd.func57.trans (congrArg some (by kernel_rfl))
  f240 := Tryd.func58.trans (congrArg some (by kernel_rfl))
  f276 := Tryd.func67.trans (congrArg some (by kernel_rfl))
  t0 := Tryd.underlying0
  a0 := Tryd.isAgg0
  z0 := Tryd.sizeOf0
  v0 := Tryd.zeroValue0
  t4 := Tryd.underlying4
  a4 := Tryd.isAgg4
  z4 := Tryd.sizeOf4
  v4 := Tryd.zeroValue4
  t5 := Tryd.underlying5
  a5 := Tryd.isAgg5
  z5 := Tryd.sizeOf5
  v5 := Tryd.zeroValue5
  t9 := Tryd.underlying9
  a9 := Tryd.isAgg9
  z9 := Tryd.sizeOf9
  v9 := Tryd.zeroValue9
  t20 := Tryd.underlying20
  a20 := Tryd.isAgg20
  z20 := Tryd.sizeOf20
  v20 := Tryd.zeroValue20
  t37 := Tryd.underlying78
  a37 := Tryd.isAgg78
  z37 := Tryd.sizeOf78
  v37 := Tryd.zeroValue78
  t70 := Tryd.underlying77
  a70 := Tryd.isAgg77
  z70 := Tryd.sizeOf77
  v70 := Tryd.zeroValue77
  t72 := Tryd.underlying80
  a72 := Tryd.isAgg80
  z72 := Tryd.sizeOf80
  v72 := Tryd.zeroValue80
  t75 := Tryd.underlying85
  a75 := Tryd.isAgg85
  z75 := Tryd.sizeOf85
  v75 := Tryd.zeroValue85
  t164 := Tryd.underlying117
  a164 := Tryd.isAgg117
  z164 := Tryd.sizeOf117
  v164 := Tryd.zeroValue117 }
theorem extra167 : Builder.Extra Tryd.prog ren167 := {
  sizeBuilder := by kernel_rfl
  liesBuilder := by kernel_rfl
  t5 := Tryd.underlying5
  a5 := Tryd.isAgg5
  z5 := Tryd.sizeOf5
  v5 := Tryd.zeroValue5
  infoByte := by kernel_rfl
  cellsByte := by kernel_rfl
  sizeByte := by kernel_rfl
  neB5 := by decide }

/-- The builder in block b holds these bytes. -/
def Bd (w : World) (B b : Nat) (l : List UInt8) : Prop := Lib.IsBuilderF 80 5 B b (Lib.byteCells l) w
/-- Written: below B nothing has turned, and above it no block but b and rows of bytes. -/
def Wrote (B b : Nat) (w w' : World) : Prop := Below B w w' ∧ Lib.OthersKept 5 (some b) w w'
theorem Wrote.refl (B b : Nat) (w : World) : Wrote B b w w := ⟨Below.refl _ _, Lib.OthersKept.refl _ _ _⟩
theorem Wrote.trans {B b : Nat} {a c d : World} (h : Wrote B b a c) (k : Wrote B b c d) : Wrote B b a d := ⟨h.1.trans k.1, h.2.trans k.2⟩
theorem Wrote.alloc {B b : Nat} {a c : World} (h : Wrote B b a c) (hB : B ≤ c.heap.size) (o : Obj) : Wrote B b a (c.alloc o) := ⟨h.1.alloc hB o, h.2.alloc o⟩
theorem Wrote.drew {B b : Nat} {a c : World} (h : Wrote B b a c) : Wrote B b a c.drew := ⟨h.1.drew, h.2.drew⟩
theorem Wrote.size {B b : Nat} {a c : World} (h : Wrote B b a c) : a.heap.size ≤ c.heap.size := h.1.size
theorem Wrote.block {B b k : Nat} {a c : World} {cs : Array Value} {t : TypeId} {fz : Nat × Nat} (h : Wrote B b a c) (hk : a.heap[k]? = some (.cells cs t fz)) (hb : k ≠ b) (ht : t ≠ 5) : c.heap[k]? = some (.cells cs t fz) :=
  h.2 k _ hk (by simpa using hb) (by rintro c' fz' e; injection e with _ e2 _; exact ht e2)
theorem bd_fresh (w : World) : Bd (w.alloc (.cells #[.pointer none, .slice none 0 0] 80)) w.heap.size w.heap.size [] := Lib.IsBuilderF.of (Lib.fresh_isBuilder 80 5 w)
theorem Bd.lt {w : World} {B b : Nat} {l : List UInt8} (h : Bd w B b l) : b < w.heap.size := by
  rcases h with ⟨_, v, hb, _⟩ | ⟨_, v, hb, _⟩
  · exact (Array.getElem?_eq_some_iff.1 hb).1
  · exact (Array.getElem?_eq_some_iff.1 hb).1
theorem Bd.base {w : World} {B b : Nat} {l : List UInt8} (h : Bd w B b l) : B ≤ b := by
  rcases h with ⟨h, _⟩ | ⟨h, _⟩
  · exact h
  · exact h
theorem ownF_keep {w w' : World} {B : Nat} {e : TypeId} {v : Value} {n : Nat} {xs : List Value} (h : w.ownsRowF B e 1 v n xs) (hk : ∀ k, v.ownBlock = some k → w'.heap[k]? = w.heap[k]?) : w'.ownsRowF B e 1 v n xs := by
  refine ⟨h.1, ?_⟩
  rcases h.2 with h0 | ⟨g, cap, cur, fz, rfl, hb, hg, r⟩
  · exact .inl h0
  · exact .inr ⟨g, cap, cur, fz, rfl, hb, (hk g rfl).trans hg, r⟩
theorem ownF_lt {w : World} {B : Nat} {e : TypeId} {v : Value} {n : Nat} {xs : List Value} (h : w.ownsRowF B e 1 v n xs) : ∀ k, v.ownBlock = some k → k < w.heap.size := by
  intro k hk
  obtain ⟨c, fz, hc⟩ := Lib.ownsRowF_kind h k hk
  exact (Array.getElem?_eq_some_iff.1 hc).1
/-- What is new turns no builder. -/
theorem Bd.later {w w' : World} {B b : Nat} {l : List UInt8} (h : Bd w B b l) (hb : Below w.heap.size w w') : Bd w' B b l := by
  rcases h with ⟨h1, v, h2, h3, h4⟩ | ⟨h1, v, h2, h3, h4⟩
  · exact .inl ⟨h1, v, (hb.block b (Array.getElem?_eq_some_iff.1 h2).1).trans h2, ownF_keep h3 fun k hk => hb.block k (ownF_lt h3 k hk), h4⟩
  · exact .inr ⟨h1, v, (hb.block b (Array.getElem?_eq_some_iff.1 h2).1).trans h2, ownF_keep h3 fun k hk => hb.block k (ownF_lt h3 k hk), h4⟩
theorem Bd.alloc {w : World} {B b : Nat} {l : List UInt8} (h : Bd w B b l) (o : Obj) : Bd (w.alloc o) B b l := h.later ((Below.refl _ _).alloc (Nat.le_refl _) _)

theorem byteCells_app (l m : List UInt8) : Lib.byteCells (l ++ m) = Lib.byteCells l ++ Lib.byteCells m := by simp [Lib.byteCells]
theorem strCells_list (s : ByteArray) : Lib.strCells s = Lib.byteCells s.data.toList := by simp [Lib.strCells, Lib.byteCells]
theorem byteCells_len (l : List UInt8) : (Lib.byteCells l).length = l.length := by simp [Lib.byteCells]
theorem byte_any (B b : Nat) (l : List UInt8) (x : Int) (c : UInt8) (hx : x = (c.toNat : Int)) (w : World) (h : Bd w B b l) (hlen : l.length < 100000000) (hBw : B ≤ w.heap.size) :
    Calls Tryd.prog 57 #[.pointer (some ⟨b, 0, none⟩), .int .u8 x] w fun e w' => e = .returned .nilIface ∧ Bd w' B b (l ++ [c]) ∧ Wrote B b w w' := by
  refine (Any.Builder_WriteByte_k lays167 extra167 B b _ x w h (by rw [byteCells_len]; omega) hBw).mono ?_
  rintro e w' ⟨rfl, h1, h2, h3⟩
  refine ⟨rfl, ?_, h2, h3⟩
  have e : Lib.byteCells l ++ [.int .u8 x] = Lib.byteCells (l ++ [c]) := by rw [byteCells_app, hx]; rfl
  rw [e] at h1
  exact .inr h1
theorem string_any (B b : Nat) (l : List UInt8) (s : ByteArray) (w : World) (h : Bd w B b l) (hlen : l.length + s.size < 100000000) (hBw : B ≤ w.heap.size) :
    Calls Tryd.prog 43 #[.pointer (some ⟨b, 0, none⟩), .string s] w fun e w' => e = .returned (.tuple #[.int .i64 s.size, .nilIface]) ∧ Bd w' B b (l ++ s.data.toList) ∧ Wrote B b w w' := by
  refine (Any.Builder_WriteString_k lays166 extra166 B b _ s w h (by rw [byteCells_len]; omega) hBw).mono ?_
  rintro e w' ⟨rfl, h1, h2, h3⟩
  refine ⟨rfl, ?_, h2, h3⟩
  rw [strCells_list, ← byteCells_app] at h1
  exact .inr h1
theorem told_any (B b : Nat) (l : List UInt8) (w : World) (h : Bd w B b l) (hBw : B ≤ w.heap.size) :
    Calls Tryd.prog 44 #[.pointer (some ⟨b, 0, none⟩)] w fun e w' => e = .returned (.string ⟨l.toArray⟩) ∧ Bd w' B b l ∧ Wrote B b w w' :=
  (Any.Builder_String_any_k Tryd.lays169 Tryd.Builder_Extra_169 B b l w h hBw).mono fun _ _ ⟨h1, h2, h3, h4⟩ => ⟨h1, h2, h3, h4⟩
end Go.Proofs.YthfiebdpoleeeaaDoor
