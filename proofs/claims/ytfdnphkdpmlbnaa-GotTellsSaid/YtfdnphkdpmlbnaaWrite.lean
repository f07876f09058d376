/-
  A builder that is written: a byte, a text, numbers of all sizes; of all that is no row of bytes nothing but the builder turns: contracts.
-/
import Derived.Shelf.Strings.BuilderK
import Derived.Test.YtfdnphkdpmlbnaaBuilder
import Derived.Test.YtfdnphkdpmlbnaaCk
namespace Go.Proofs.Ytfdnphkdpmlbnaa
open Go.Shelf Go.RowKit
set_option linter.unusedVariables false

def ren167 : Go.Shelf.Ren := ⟨fun | 167 => 70 | 240 => 72 | 276 => 88 | n => n, ren166.t, fun n => n⟩
theorem lays167 : Go.Proofs.Lays.n167 Try.prog ren167 := {
  mixed := by kernel_rfl
  f167 := Try.func70.trans (congrArg some (by kernel_rfl))
  f240 := Try.func72.trans (congrArg some (by kernel_rfl))
  f276 := Try.func88.trans (congrArg some (by kernel_rfl))
  t0 := Try.underlying0
  a0 := Try.isAgg0
  z0 := Try.sizeOf0
  v0 := Try.zeroValue0
  t4 := Try.underlying4
  a4 := Try.isAgg4
  z4 := Try.sizeOf4
  v4 := Try.zeroValue4
  t5 := Try.underlying5
  a5 := Try.isAgg5
  z5 := Try.sizeOf5
  v5 := Try.zeroValue5
  t9 := Try.underlying9
  a9 := Try.isAgg9
  z9 := Try.sizeOf9
  v9 := Try.zeroValue9
  t20 := Try.underlying20
  a20 := Try.isAgg20
  z20 := Try.sizeOf20
  v20 := Try.zeroValue20
  t37 := Try.underlying83
  a37 := Try.isAgg83
  z37 := Try.sizeOf83
  v37 := Try.zeroValue83
  t70 := Try.underlying82
  a70 := Try.isAgg82
  z70 := Try.sizeOf82
  v70 := Try.zeroValue82
  t72 := Try.underlying85
  a72 := Try.isAgg85
  z72 := Try.sizeOf85
  v72 := Try.zeroValue85
  t75 := Try.underlying89
  a75 := Try.isAgg89
  z75 := Try.sizeOf89
  v75 := Try.zeroValue89
  t164 := Try.underlying126
  a164 := Try.isAgg126
  z164 := Try.sizeOf126
  v164 := Try.zeroValue126 }
theorem extra167 : Builder.Extra Try.prog ren167 := {
  sizeBuilder := by kernel_rfl
  liesBuilder := by kernel_rfl
  t5 := Try.underlying5
  a5 := Try.isAgg5
  z5 := Try.sizeOf5
  v5 := Try.zeroValue5
  infoByte := by kernel_rfl
  cellsByte := by kernel_rfl
  sizeByte := by kernel_rfl
  neB5 := by decide }

/-- The builder in block b holds these bytes. -/
def Bd (w : World) (B b : Nat) (l : List UInt8) : Prop := Lib.IsBuilderF 85 5 B b (Lib.byteCells l) w
/-- Written: below B nothing has turned, and above it no block but b and rows of bytes. -/
def Wrote (B b : Nat) (w w' : World) : Prop := Below B w w' ∧ Lib.OthersKept 5 (some b) w w'
theorem Wrote.refl (B b : Nat) (w : World) : Wrote B b w w := ⟨Below.refl _ _, Lib.OthersKept.refl _ _ _⟩
theorem Wrote.trans {B b : Nat} {a c d : World} (h : Wrote B b a c) (k : Wrote B b c d) : Wrote B b a d := ⟨h.1.trans k.1, h.2.trans k.2⟩
theorem Wrote.alloc {B b : Nat} {a c : World} (h : Wrote B b a c) (hB : B ≤ c.heap.size) (o : Obj) : Wrote B b a (c.alloc o) := ⟨h.1.alloc hB o, h.2.alloc o⟩
theorem Wrote.drew {B b : Nat} {a c : World} (h : Wrote B b a c) : Wrote B b a c.drew := ⟨h.1.drew, h.2.drew⟩
theorem Wrote.size {B b : Nat} {a c : World} (h : Wrote B b a c) : a.heap.size ≤ c.heap.size := h.1.size
theorem Wrote.block {B b k : Nat} {a c : World} {cs : Array Value} {t : TypeId} {fz : Nat × Nat} (h : Wrote B b a c) (hk : a.heap[k]? = some (.cells cs t fz)) (hb : k ≠ b) (ht : t ≠ 5) : c.heap[k]? = some (.cells cs t fz) :=
  h.2 k _ hk (by simpa using hb) (by rintro c' fz' e; injection e with _ e2 _; exact ht e2)
theorem bd_fresh (w : World) : Bd (w.alloc (.cells #[.pointer none, .slice none 0 0] 85)) w.heap.size w.heap.size [] := Lib.IsBuilderF.of (Lib.fresh_isBuilder 85 5 w)
theorem Bd.lt {w : World} {B b : Nat} {l : List UInt8} (h : Bd w B b l) : b < w.heap.size := by
  rcases h with ⟨_, v, hb, _⟩ | ⟨_, v, hb, _⟩
  · exact (Array.getElem?_eq_some_iff.1 hb).1
  · exact (Array.getElem?_eq_some_iff.1 hb).1
theorem Bd.base {w : World} {B b : Nat} {l : List UInt8} (h : Bd w B b l) : B ≤ b := by
  rcases h with ⟨h, _⟩ | ⟨h, _⟩
  · exact h
  · exact h
theorem ownF_keep {w w' : World} {B : Nat} {e : TypeId} {v : Value} {n : Nat} {xs : List Value} (h : w.ownsRowF B e 1 v n xs) (hk : ∀ k, v.ownBlock = some k → w'.heap[k]? = w.heap[k]?) : w'.ownsRowF B e 1 v n xs := by
  refine ⟨h.1, ?_⟩
  rcases h.2 with h0 | ⟨g, cap, cur, fz, rfl, hb, hg, r⟩
  · exact .inl h0
  · exact .inr ⟨g, cap, cur, fz, rfl, hb, (hk g rfl).trans hg, r⟩
theorem ownF_lt {w : World} {B : Nat} {e : TypeId} {v : Value} {n : Nat} {xs : List Value} (h : w.ownsRowF B e 1 v n xs) : ∀ k, v.ownBlock = some k → k < w.heap.size := by
  intro k hk
  obtain ⟨c, fz, hc⟩ := Lib.ownsRowF_kind h k hk
  exact (Array.getElem?_eq_some_iff.1 hc).1
/-- What is new turns no builder. -/
theorem Bd.later {w w' : World} {B b : Nat} {l : List UInt8} (h : Bd w B b l) (hb : Below w.heap.size w w') : Bd w' B b l := by
  rcases h with ⟨h1, v, h2, h3, h4⟩ | ⟨h1, v, h2, h3, h4⟩
  · exact .inl ⟨h1, v, (hb.block b (Array.getElem?_eq_some_iff.1 h2).1).trans h2, ownF_keep h3 fun k hk => hb.block k (ownF_lt h3 k hk), h4⟩
  · exact .inr ⟨h1, v, (hb.block b (Array.getElem?_eq_some_iff.1 h2).1).trans h2, ownF_keep h3 fun k hk => hb.block k (ownF_lt h3 k hk), h4⟩
theorem Bd.alloc {w : World} {B b : Nat} {l : List UInt8} (h : Bd w B b l) (o : Obj) : Bd (w.alloc o) B b l := h.later ((Below.refl _ _).alloc (Nat.le_refl _) _)

theorem byteCells_app (l m : List UInt8) : Lib.byteCells (l ++ m) = Lib.byteCells l ++ Lib.byteCells m := by simp [Lib.byteCells]
theorem strCells_list (s : ByteArray) : Lib.strCells s = Lib.byteCells s.data.toList := by simp [Lib.strCells, Lib.byteCells]
theorem byteCells_len (l : List UInt8) : (Lib.byteCells l).length = l.length := by simp [Lib.byteCells]
theorem byte_any (B b : Nat) (l : List UInt8) (x : Int) (c : UInt8) (hx : x = (c.toNat : Int)) (w : World) (h : Bd w B b l) (hlen : l.length < 100000000) (hBw : B ≤ w.heap.size) :
    Calls Try.prog 70 #[.pointer (some ⟨b, 0, none⟩), .int .u8 x] w fun e w' => e = .returned .nilIface ∧ Bd w' B b (l ++ [c]) ∧ Wrote B b w w' := by
  refine (Any.Builder_WriteByte_k lays167 extra167 B b _ x w h (by rw [byteCells_len]; omega) hBw).mono ?_
  rintro e w' ⟨rfl, h1, h2, h3⟩
  refine ⟨rfl, ?_, h2, h3⟩
  have e : Lib.byteCells l ++ [.int .u8 x] = Lib.byteCells (l ++ [c]) := by rw [byteCells_app, hx]; rfl
  rw [e] at h1
  exact .inr h1
theorem string_any (B b : Nat) (l : List UInt8) (s : ByteArray) (w : World) (h : Bd w B b l) (hlen : l.length + s.size < 100000000) (hBw : B ≤ w.heap.size) :
    Calls Try.prog 51 #[.pointer (some ⟨b, 0, none⟩), .string s] w fun e w' => e = .returned (.tuple #[.int .i64 s.size, .nilIface]) ∧ Bd w' B b (l ++ s.data.toList) ∧ Wrote B b w w' := by
  refine (Any.Builder_WriteString_k lays166 extra166 B b _ s w h (by rw [byteCells_len]; omega) hBw).mono ?_
  rintro e w' ⟨rfl, h1, h2, h3⟩
  refine ⟨rfl, ?_, h2, h3⟩
  rw [strCells_list, ← byteCells_app] at h1
  exact .inr h1
theorem told_any (B b : Nat) (l : List UInt8) (w : World) (h : Bd w B b l) (hBw : B ≤ w.heap.size) :
    Calls Try.prog 53 #[.pointer (some ⟨b, 0, none⟩)] w fun e w' => e = .returned (.string ⟨l.toArray⟩) ∧ Bd w' B b l ∧ Wrote B b w w' :=
  (Any.Builder_String_any_k Try.lays169 Try.Builder_Extra_169 B b l w h hBw).mono fun _ _ ⟨h1, h2, h3, h4⟩ => ⟨h1, h2, h3, h4⟩
end Go.Proofs.Ytfdnphkdpmlbnaa
