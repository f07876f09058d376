/-
  What the statements do with chunks that are built, or read, or read as nothing: contracts.
-/
import Derived.Test.YtjdnlolhcjalmaaCkShown
import Derived.Test.YtjdnlolhcjalmaaCkSmall
import Derived.Test.YtjdnlolhcjalmaaCkArgs
namespace Go.Proofs.Ytjdnlolhcjalmaa
open Go.RowKit
set_option linter.unusedVariables false
set_option linter.unusedSimpArgs false
set_option maxRecDepth 100000

theorem rowL_many : ∀ l : List Item, 4 * l.length ≤ (rowL l).length ∧ ∀ x ∈ l, x.2.size ≤ (rowL l).length
  | [] => ⟨by simp, by simp⟩
  | x :: l => by
    obtain ⟨h1, h2⟩ := rowL_many l
    rw [rowL_cons, List.length_append, bytesL_length]
    refine ⟨by rw [List.length_cons]; omega, fun y hy => ?_⟩
    rcases List.mem_cons.1 hy with rfl | hy
    · omega
    · have := h2 y hy
      omega
theorem form_caps (k : Int) : (formOf k).2.1.2 ≤ 1000 ∧ (formOf k).2.2.2 ≤ 100 := by
  unfold formOf
  repeat' split
  all_goals exact ⟨by decide, by decide⟩
/-- A chunk that can be built is no great one. -/
theorem ok_bounds {c : Ck} (h : (buildC c).2 = 0) : c.gaps.length ≤ 100 ∧ c.dups.length ≤ 100 ∧ c.items.length ≤ 1000 ∧ (∀ x ∈ c.items, x.2.size ≤ 4000) ∧ c.text.size ≤ 1000 := by
  obtain ⟨h1, h2, _, _⟩ := buildC_ok h
  obtain ⟨_, _, p3, _, p5, p6, _⟩ := formed_parts h2
  obtain ⟨f1, f2⟩ := form_caps c.type
  obtain ⟨_, b2, _⟩ := build_ok h1
  obtain ⟨r1, r2⟩ := rowL_many c.items
  exact ⟨by omega, by omega, by omega, fun x hx => by have := r2 x hx; omega, by omega⟩
/-- What is built of a chunk that can be built, and what is read of that. -/
theorem built_any {c : Ck} (hw : WfC c) (h : (buildC c).2 = 0) (g d it : Value) (w : World) (hp : Parts w c g d it) :
    Calls Try.prog 10 #[.agg (cellsC c g d it)] w fun e w' => e = .returned (.tuple #[.string (buildC c).1, .int .i64 0]) ∧ Below w.heap.size w w' := by
  obtain ⟨b1, b2, b3, b4, b5⟩ := ok_bounds h
  have H := ckbuild_any c hw (by omega) (by omega) (by omega) (fun x hx => by have := b4 x hx; omega) (by omega) g d it w hp
  rw [h] at H
  exact H
theorem right_any {c : Ck} (hw : WfC c) (h : (buildC c).2 = 0) (g d it : Value) (w : World) (hp : Parts w c g d it) :
    Calls Try.prog 13 #[.agg (cellsC c g d it)] w fun e w' => e = .returned (.bool true) ∧ Below w.heap.size w w' := by
  obtain ⟨b1, b2, b3, b4, b5⟩ := ok_bounds h
  have H := ckright_any c hw (by omega) (by omega) (by omega) (fun x hx => by have := b4 x hx; omega) (by omega) g d it w hp
  rw [decide_eq_true h] at H
  exact H
theorem sized_any {c : Ck} (hw : WfC c) (h : (buildC c).2 = 0) (g d it : Value) (w : World) (hp : Parts w c g d it) :
    Calls Try.prog 15 #[.agg (cellsC c g d it)] w fun e w' => e = .returned (.int .i64 ((buildC c).1.size : Nat)) ∧ Below w.heap.size w w' := by
  obtain ⟨b1, b2, b3, b4, b5⟩ := ok_bounds h
  exact cksize_any c hw (by omega) (by omega) (by omega) (fun x hx => by have := b4 x hx; omega) (by omega) g d it w hp
theorem same_self {c : Ck} (h : (buildC c).2 = 0) (g d it g' d' it' : Value) (w : World) (hp : Parts w c g d it) (hp' : Parts w c g' d' it') :
    Calls Try.prog 18 #[.agg (cellsC c g d it), .agg (cellsC c g' d' it')] w fun e w' => e = .returned (.bool true) ∧ Below w.heap.size w w' := by
  obtain ⟨b1, b2, b3, b4, b5⟩ := ok_bounds h
  have H := same_any c c (fun _ => rfl) (fun _ => rfl) (fun _ => rfl) (by omega) (by omega) (by omega) (by omega) g d it g' d' it' w hp hp'
  rw [sameB_self] at H
  exact H
theorem built_size {c : Ck} (h : (buildC c).2 = 0) : (buildC c).1.size % 4 = 0 ∧ (buildC c).1.size ≤ 1400 ∧ 4 ≤ (buildC c).1.size := by
  obtain ⟨h1, h2, h3, h4⟩ := buildC_ok h
  rw [h4, toB_size, bytesC_length]
  have := padN_four (4 + (valueL c).length)
  have := padN_lt (4 + (valueL c).length)
  omega
/-- What is read of what was built, whatever stands behind it. -/
theorem reread_any {c : Ck} (hw : WfC c) (h : (buildC c).2 = 0) (t : ByteArray) (ht : t.size ≤ 100000) (w : World) :
    Calls Try.prog 17 #[.string ((buildC c).1 ++ t)] w (ReadQ c (buildC c).1.size 0 w) := by
  have H := ckparse_any ((buildC c).1 ++ t) (by rw [ByteArray.size_append]; have := (built_size h).2.1; omega) w
  rw [chunk_back hw h t] at H
  exact H
theorem append_noB (s : ByteArray) : s ++ noB = s := by
  apply bytes_ext
  simp [noB]
theorem reread_one {c : Ck} (hw : WfC c) (h : (buildC c).2 = 0) (w : World) :
    Calls Try.prog 17 #[.string (buildC c).1] w (ReadQ c (buildC c).1.size 0 w) := by
  have H := reread_any hw h noB (by decide) w
  rw [append_noB] at H
  exact H
/-- What is read of a text that is no chunk. -/
theorem read_bad {s : ByteArray} (hs : s.size ≤ 1000000) (h : (parseC s).2.2 ≠ 0) (w : World) : Calls Try.prog 17 #[.string s] w fun e w' =>
    ∃ A1 k1 A2 k2 A3 k3, e = .returned (.tuple #[.agg #[.int .i64 0, .int .i64 0, .int .u32 0, .int .u32 0, .int .u32 0, .int .u32 0, .int .u16 0, .int .u16 0, .int .u16 0, .int .u16 0, .slice A1 0 k1, .slice A2 0 k2, .slice A3 0 k3, .string ⟨#[]⟩], .int .i64 0, .int .i64 ((parseC s).2.2 : Nat)]) ∧ Parts w' (zeroC 0 0) (.slice A1 0 k1) (.slice A2 0 k2) (.slice A3 0 k3) ∧ Below w.heap.size w w' := by
  have H := ckparse_any s hs w
  obtain ⟨e0, h0⟩ := parseC_err h
  rw [h0] at H
  rw [h0]
  refine H.mono ?_
  rintro e w' ⟨g, d, it, he, hp, hb⟩
  obtain ⟨⟨A1, k1, rfl⟩, ⟨A2, k2, rfl⟩, ⟨A3, k3, rfl⟩⟩ := hp.slices
  exact ⟨A1, k1, A2, k2, A3, k3, he, hp, hb⟩
theorem same_none (A1 A2 A3 : Option Addr) (k1 k2 k3 : Nat) (w : World) (hp : Parts w (zeroC 0 0) (.slice A1 0 k1) (.slice A2 0 k2) (.slice A3 0 k3)) :
    Calls Try.prog 18 #[.agg #[.int .i64 0, .int .i64 0, .int .u32 0, .int .u32 0, .int .u32 0, .int .u32 0, .int .u16 0, .int .u16 0, .int .u16 0, .int .u16 0, .slice A1 0 k1, .slice A2 0 k2, .slice A3 0 k3, .string ⟨#[]⟩], .agg #[.int .i64 0, .int .i64 0, .int .u32 0, .int .u32 0, .int .u32 0, .int .u32 0, .int .u16 0, .int .u16 0, .int .u16 0, .int .u16 0, .slice none 0 0, .slice none 0 0, .slice none 0 0, .string ⟨#[]⟩]] w fun e w' =>
    e = .returned (.bool true) ∧ Below w.heap.size w w' := by
  have h := same_any (zeroC 0 0) (zeroC 0 0) (fun _ => rfl) (fun _ => rfl) (fun _ => rfl) (by decide) (by decide) (by decide) (by decide) (.slice A1 0 k1) (.slice A2 0 k2) (.slice A3 0 k3) (.slice none 0 0) (.slice none 0 0) (.slice none 0 0) w hp (Parts.zero w 0 0)
  rw [sameB_self] at h
  exact h
theorem none_cells (A1 A2 A3 : Option Addr) (k1 k2 k3 : Nat) : (#[.int .i64 0, .int .i64 0, .int .u32 0, .int .u32 0, .int .u32 0, .int .u32 0, .int .u16 0, .int .u16 0, .int .u16 0, .int .u16 0, .slice A1 0 k1, .slice A2 0 k2, .slice A3 0 k3, .string ⟨#[]⟩] : Array Value).all (·.oneCell') = true := by kernel_rfl
/-- With a byte less than its length says there is no chunk. -/
theorem short_err {s : ByteArray} (h2 : lenC s ≤ s.size) (h3 : 4 ≤ lenC s) : (parseC (s.extract 0 (lenC s - 1))).2.2 = 3 := by
  have e : s.extract 0 (lenC s - 1) = ⟨(s.data.toList.take (lenC s - 1)).toArray⟩ := by
    apply bytes_ext
    simp
  rw [e]
  exact chunk_short h2 h3
end Go.Proofs.Ytjdnlolhcjalmaa
