/-
  Gots in boxes; whether two are the same: contract.
-/
import Derived.Test.YtfdnphkdpmlbnaaGk
import Derived.Test.YtfdnphkdpmlbnaaArgs
namespace Go.Proofs.Ytfdnphkdpmlbnaa
open Go.RowKit
set_option linter.unusedVariables false
set_option linter.unusedSimpArgs false
set_option maxRecDepth 100000

/-- A box that a got lies in. -/
structure Gx where
  T : TypeId
  g : Nat
  c : UInt32
  ab : List UInt32
  du : List UInt32
  va : Value
  vd : Value
def Gx.at (x : Gx) (W : World) : Prop := Bx W x.g x.T #[.int .u32 (x.c.toNat : Int), x.va, x.vd] ∧ RowE enc32 W x.va x.ab ∧ RowE enc32 W x.vd x.du
def AllG (L : List Gx) (W : World) : Prop := ∀ x ∈ L, x.at W
theorem AllG.later {L : List Gx} {W W' : World} (h : AllG L W) (hb : Below W.heap.size W W') : AllG L W' := fun x hx => ⟨(h x hx).1.later hb, (h x hx).2.1.below hb, (h x hx).2.2.below hb⟩
theorem AllG.drew {L : List Gx} {W : World} (h : AllG L W) : AllG L W.drew := h
theorem AllG.nth {L : List Gx} {W : World} {x : Gx} (h : AllG L W) (i : Nat) (hi : L[i]? = some x) : x.at W := h x (List.mem_of_getElem? hi)
theorem AllG.snoc {L : List Gx} {W : World} {x : Gx} (h : AllG L W) (hx : x.at W) : AllG (L ++ [x]) W := fun y hy => by
  rcases List.mem_append.1 hy with hy | hy
  · exact h y hy
  · rw [List.mem_singleton.1 hy]; exact hx
set_option maxHeartbeats 1000000 in
theorem same_any (c : UInt32) (ab du : List UInt32) (ha : ab.length ≤ 1000000) (hd : du.length ≤ 1000000) (va vd va2 vd2 : Value) (w : World) (h1 : RowE enc32 w va ab) (h2 : RowE enc32 w vd du) (h3 : RowE enc32 w va2 ab) (h4 : RowE enc32 w vd2 du) : Calls Try.prog 15 #[.agg #[.int .u32 (c.toNat : Int), va, vd], .agg #[.int .u32 (c.toNat : Int), va2, vd2]] w fun e w' => e = .returned (.bool true) ∧ Below w.heap.size w w' := by
  obtain ⟨W, hW, HA, HZ, HB, hs⟩ := two_open w 28 28 #[.int .u32 (c.toNat : Int), va, vd] #[.int .u32 (c.toNat : Int), va2, vd2]
  have H1 := Lib.hid (h1.below HB.out)
  have H2 := Lib.hid (h2.below HB.out)
  have H3 := Lib.hid (h3.below HB.out)
  have H4 := Lib.hid (h4.below HB.out)
  have HNA := Lib.hid (fun v1 v2 W h h' => nums_same ab ha v1 v2 W h h')
  have HND := Lib.hid (fun v1 v2 W h h' => nums_same du hd v1 v2 W h h')
  obtain ⟨A, k, rfl, -, -, -⟩ := id H1.out
  obtain ⟨A', k', rfl, -, -, -⟩ := id H2.out
  obtain ⟨A5, k5, rfl, -, -, -⟩ := id H3.out
  obtain ⟨A6, k6, rfl, -, -, -⟩ := id H4.out
  have c0 := HA.out.cell 0 (.int .u32 (c.toNat : Int)) rfl
  have c1 := HA.out.cell 1 (.slice A ab.length k) rfl
  have d0 := HZ.out.cell 0 (.int .u32 (c.toNat : Int)) rfl
  have d1 := HZ.out.cell 1 (.slice A5 ab.length k5) rfl
  go_enter Try.func15, Try.ntmps15
  go_wp2_with fail
  refine (HNA.out _ _ _ H1.out H3.out).mono ?_
  rintro e w1 ⟨rfl, hb⟩
  have c2 := (HA.out.later hb).cell 2 (.slice A' du.length k') rfl
  have d2 := (HZ.out.later hb).cell 2 (.slice A6 du.length k6) rfl
  replace H2 := Lib.hid (H2.out.below hb)
  replace H4 := Lib.hid (H4.out.below hb)
  replace HB := Lib.hid (HB.out.trans (hb.mono HB.out.size))
  clear hb c0 c1 d0 d1 HA HZ hW
  go_wp2_with fail
  refine (HND.out _ _ _ H2.out H4.out).mono ?_
  rintro e w2 ⟨rfl, hb⟩
  replace HB := Lib.hid (HB.out.trans (hb.mono HB.out.size))
  clear hb c2 d2
  go_wp2_with fail
  go_ret
  exact ⟨rfl, HB.out⟩
theorem take_small {g : Gt} (n : UInt32) (hr : RightG g) (h : g.ab.length ≤ 900000) : (takeG g n).1.ab.length ≤ 1000000 ∧ (takeG g n).1.du.length ≤ 1000000 := by
  refine ⟨?_, by have := (take_right hr n).dups; omega⟩
  unfold takeG
  split
  · show g.ab.length ≤ _; omega
  · split
    · show g.ab.length ≤ _; omega
    · split
      · rename_i hn
        obtain ⟨k, hw⟩ := follow_went g.cum g.ab n hr.strict (fun x hx => by have := (hr.near x hx).1; rw [hn, key_next]; omega)
        have := hw.cnt
        show (follow n g.ab).2.length ≤ _
        omega
      · have := length_ins_le g.cum n g.ab
        show (ins g.cum n g.ab).length ≤ _
        omega
theorem right_yes (c : UInt32) (ab du : List UInt32) (ha : ab.length ≤ maxLen) (hd : du.length ≤ maxLen) (va vd : Value) (w : World) (h1 : RowE enc32 w va ab) (h2 : RowE enc32 w vd du) (hr : RightG ⟨c, ab, du⟩) : Calls Try.prog 11 #[.agg #[.int .u32 (c.toNat : Int), va, vd]] w fun e w' => e = .returned (.bool true) ∧ Below w.heap.size w w' := by
  have h := right_any c ab du ha hd va vd w h1 h2
  rw [rightB_yes hr] at h
  exact h
theorem right_no (c : UInt32) (ab du : List UInt32) (ha : ab.length ≤ maxLen) (hd : du.length ≤ maxLen) (va vd : Value) (w : World) (h1 : RowE enc32 w va ab) (h2 : RowE enc32 w vd du) (hr : ¬ RightG ⟨c, ab, du⟩) : Calls Try.prog 11 #[.agg #[.int .u32 (c.toNat : Int), va, vd]] w fun e w' => e = .returned (.bool false) ∧ Below w.heap.size w w' := by
  have h := right_any c ab du ha hd va vd w h1 h2
  rw [rightB_no hr] at h
  exact h
end Go.Proofs.Ytfdnphkdpmlbnaa
