/-
  Runs of numbers; a got in a box of a law's own.
-/
import Derived.Test.YtfdnphkdpmlbnaaGl
import Derived.Test.YtfdnphkdpmlbnaaGq
namespace Go.Proofs.Ytfdnphkdpmlbnaa
open Go.RowKit
set_option linter.unusedVariables false
set_option linter.unusedSimpArgs false
set_option maxRecDepth 100000

/-- Behind i numbers, each of which is f's. -/
def Run (b : UInt32) (f : Nat → UInt32) (i : Nat) (g : Gt) : Prop := ∃ S, Made b S g ∧ (∀ x, x ∈ S ↔ ∃ j, j < i ∧ f j = x) ∧ g.du.length + S.length = i
theorem Run.start (b : UInt32) (f : Nat → UInt32) : Run b f 0 ⟨b, [], []⟩ := ⟨[], Made.start b, fun x => by simp, rfl⟩
theorem Run.right {b : UInt32} {f : Nat → UInt32} {i : Nat} {g : Gt} (h : Run b f i g) (hi : i ≤ 100) : RightG g ∧ g.ab.length ≤ 100 ∧ g.du.length ≤ 100 := by
  obtain ⟨S, hm, hs, hl⟩ := h
  have := hm.cnt
  exact ⟨hm.right (by omega), by omega, by omega⟩
theorem Run.step {b : UInt32} {f : Nat → UInt32} {i : Nat} {g : Gt} (h : Run b f i g) (hi : i < 100) (h1 : 1 ≤ key b (f i)) (h2 : key b (f i) ≤ 200) : Run b f (i + 1) (takeG g (f i)).1 := by
  obtain ⟨S, hm, hs, hl⟩ := h
  have hmem : ∀ x, (x ∈ S ∨ x = f i) ↔ ∃ j, j < i + 1 ∧ f j = x := fun x => by
    rw [hs x]
    constructor
    · rintro (⟨j, hj, e⟩ | e)
      · exact ⟨j, by omega, e⟩
      · exact ⟨i, by omega, e.symm⟩
    · rintro ⟨j, hj, e⟩
      by_cases e2 : j = i
      · subst e2; exact .inr e.symm
      · exact .inl ⟨j, by omega, e⟩
  by_cases hn : f i ∈ S
  · rw [hm.dup hn]
    have hdu : g.du.length < 100 := by omega
    refine ⟨S, hm.same _, fun x => ?_, ?_⟩
    · rw [← hmem x]
      exact ⟨fun h => .inl h, fun h => h.elim id (fun e => e ▸ hn)⟩
    · rw [if_pos hdu]
      simp
      omega
  · obtain ⟨_, hd, hf⟩ := hm.fresh h1 h2 hn
    refine ⟨S ++ [f i], hf, fun x => ?_, ?_⟩
    · rw [List.mem_append, List.mem_singleton, hmem x]
    · rw [hd]; simp; omega
theorem Run.same {b : UInt32} {f f' : Nat → UInt32} {i : Nat} {g g' : Gt} (h : Run b f i g) (k : Run b f' i g') (hm : ∀ x, (∃ j, j < i ∧ f j = x) ↔ ∃ j, j < i ∧ f' j = x) : g.cum = g'.cum ∧ g.ab = g'.ab ∧ g.du.length = g'.du.length := by
  obtain ⟨S, h1, h2, h3⟩ := h
  obtain ⟨S', k1, k2, k3⟩ := k
  obtain ⟨e1, e2⟩ := h1.ext k1 (fun x => by rw [h2 x, k2 x, hm x])
  have := h1.cnt
  have := k1.cnt
  rw [e1, e2] at *
  exact ⟨rfl, rfl, by omega⟩
/-- The number that is spoken of: the first and a distance below 64. -/
def numOf (first : UInt32) (l : List UInt32) (j : Nat) : UInt32 := first + UInt32.ofNat (l[j]!.toNat % 64)
theorem numOf_key (first : UInt32) (l : List UInt32) (j : Nat) : 1 ≤ key (first - 1) (numOf first l j) ∧ key (first - 1) (numOf first l j) ≤ 64 := by
  have hm : l[j]!.toNat % 64 < 64 := Nat.mod_lt _ (by omega)
  unfold numOf
  rw [key_num first (by omega)]
  omega
theorem numOf_nat (first : UInt32) (l : List UInt32) (j : Nat) : ((first.toNat : Int) + (l[j]!.toNat : Int) % 64) % 4294967296 = ((numOf first l j).toNat : Int) := by
  have hm : l[j]!.toNat % 64 < 64 := Nat.mod_lt _ (by omega)
  have h := plus_nat first (d := l[j]!.toNat % 64) (by omega)
  unfold numOf
  rw [← h]
  omega
/-- The got x lies in block g; its rows lie in blocks from B on. -/
def GAt (g B : Nat) (x : Gt) (W : World) : Prop := ∃ A k A' k', Bx W g 25 #[.int .u32 (x.cum.toNat : Int), .slice A x.ab.length k, .slice A' x.du.length k'] ∧ RowE enc32 W (.slice A x.ab.length k) x.ab ∧ RowE enc32 W (.slice A' x.du.length k') x.du ∧ FreshE B (.slice A x.ab.length k) ∧ FreshE B (.slice A' x.du.length k')
theorem GAt.later {g B : Nat} {x : Gt} {W W' : World} (h : GAt g B x W) (hb : Below W.heap.size W W') : GAt g B x W' := by
  obtain ⟨A, k, A', k', h1, h2, h3, h4, h5⟩ := h
  exact ⟨A, k, A', k', h1.later hb, h2.below hb, h3.below hb, h4, h5⟩
theorem GAt.kept {g B q : Nat} {x : Gt} {W W' : World} (h : GAt g B x W) (hg : W.grownBy W' (some q)) (hne : g ≠ q) (hq : q < B) : GAt g B x W' := by
  obtain ⟨A, k, A', k', h1, h2, h3, h4, h5⟩ := h
  exact ⟨A, k, A', k', h1.kept hg hne, h2.stays h4 hg hq, h3.stays h5 hg hq, h4, h5⟩
theorem GAt.drew {g B : Nat} {x : Gt} {W : World} (h : GAt g B x W) : GAt g B x W.drew := h
/-- Take, as it answers a law: with the slices' forms. -/
theorem take_law (g : Gt) (n : UInt32) (hr : RightG g) (ha : g.ab.length ≤ 1000000) (hd : g.du.length ≤ 1000000) (A A' : Option Addr) (k k' : Nat) (W : World) (h1 : RowE enc32 W (.slice A g.ab.length k) g.ab) (h2 : RowE enc32 W (.slice A' g.du.length k') g.du) :
    Calls Try.prog 13 #[.agg #[.int .u32 (g.cum.toNat : Int), .slice A g.ab.length k, .slice A' g.du.length k'], .int .u32 (n.toNat : Int)] W fun e W' => ∃ A5 k5 A6 k6, e = .returned (.tuple #[.agg #[.int .u32 ((takeG g n).1.cum.toNat : Int), .slice A5 (takeG g n).1.ab.length k5, .slice A6 (takeG g n).1.du.length k6], .bool (takeG g n).2]) ∧ Hid (RowE enc32 W' (.slice A5 (takeG g n).1.ab.length k5) (takeG g n).1.ab ∧ RowE enc32 W' (.slice A6 (takeG g n).1.du.length k6) (takeG g n).1.du ∧ FreshE W.heap.size (.slice A5 (takeG g n).1.ab.length k5) ∧ FreshE W.heap.size (.slice A6 (takeG g n).1.du.length k6) ∧ Below W.heap.size W W') := by
  refine (take_any g.cum g.ab g.du ha hd _ _ W h1 h2 n hr).mono fun e W' h => ?_
  obtain ⟨va', vd', he, r1, r2, f1, f2, hb⟩ := h
  obtain ⟨A5, k5, rfl, -, -, -⟩ := id r1
  obtain ⟨A6, k6, rfl, -, -, -⟩ := id r2
  exact ⟨A5, k5, A6, k6, he, Lib.hid ⟨r1, r2, f1, f2, hb⟩⟩
theorem new_law (first : UInt32) (W : World) : Calls Try.prog 18 #[.int .u32 (first.toNat : Int)] W fun e W' => e = .returned (.agg #[.int .u32 ((⟨first - 1, [], []⟩ : Gt).cum.toNat : Int), .slice none 0 0, .slice none 0 0]) ∧ Below W.heap.size W W' := new_any first W
theorem back_index {L i k : Nat} (hi : i < L) (hk : k < L) : ∃ j, j < L ∧ (L - 1 - j + k) % L = i := by
  by_cases h : L - 1 + k - i < L
  · exact ⟨L - 1 + k - i, h, by rw [show L - 1 - (L - 1 + k - i) + k = i by omega]; exact Nat.mod_eq_of_lt hi⟩
  · refine ⟨L - 1 + k - i - L, by omega, ?_⟩
    rw [show L - 1 - (L - 1 + k - i - L) + k = i + L by omega, Nat.add_mod_right]
    exact Nat.mod_eq_of_lt hi
end Go.Proofs.Ytfdnphkdpmlbnaa
