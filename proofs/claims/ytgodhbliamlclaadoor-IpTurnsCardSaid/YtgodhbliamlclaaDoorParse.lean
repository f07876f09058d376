/-
  Package ip: headers taken out of bytes: contracts.
-/
import Derived.Test.YtgodhbliamlclaaDoorBuilt
import Derived.StillTailTactics
import Derived.Laws.Tables
namespace Go.Proofs.YtgodhbliamlclaaDoor
open Go.RowKit
set_option linter.unusedVariables false

/-- Whether what is there of a payload is what the header says. -/
def heldE (there said : Int) : Int := if there < said then 3 else if said < there then 4 else if 1500 < said then 4 else 0
set_option maxHeartbeats 1000000 in
theorem held_any (a b : Int) (w : World) : Calls Tryd.prog 40 #[.int .i64 a, .int .i64 b] w fun e w' => e = .returned (.int .i64 (heldE a b)) ∧ w = w' := by
  have HE := Lib.hid (show heldE a b = if a < b then 3 else if b < a then 4 else if 1500 < b then 4 else 0 from rfl)
  generalize heldE a b = r at *
  rcases (show a < b ∨ (¬ a < b ∧ b < a) ∨ (¬ a < b ∧ ¬ b < a ∧ 1500 < b) ∨ (¬ a < b ∧ ¬ b < a ∧ ¬ 1500 < b) by omega) with h1 | ⟨h1, h2⟩ | ⟨h1, h2, h3⟩ | ⟨h1, h2, h3⟩
  · obtain rfl : r = 3 := by rw [HE.out, if_pos h1]
    go_enter Tryd.func40, Tryd.ntmps40
    go_wp2
    go_ret
    exact ⟨rfl, rfl⟩
  · obtain rfl : r = 4 := by rw [HE.out, if_neg h1, if_pos h2]
    go_enter Tryd.func40, Tryd.ntmps40
    go_wp2
    go_ret
    exact ⟨rfl, rfl⟩
  · obtain rfl : r = 4 := by rw [HE.out, if_neg h1, if_neg h2, if_pos h3]
    go_enter Tryd.func40, Tryd.ntmps40
    go_wp2
    go_ret
    exact ⟨rfl, rfl⟩
  · obtain rfl : r = 0 := by rw [HE.out, if_neg h1, if_neg h2, if_neg h3]
    go_enter Tryd.func40, Tryd.ntmps40
    go_wp2
    go_ret
    exact ⟨rfl, rfl⟩

theorem still_of {P : Program} {f : FuncId} {args : Array Value} {w : World} {v : Value} (h : Calls P f args w fun e w' => e = .returned v ∧ w = w') : Calls P f args w fun e w' => e = .returned v ∧ w' = w :=
  h.mono fun _ _ ⟨he, hw⟩ => ⟨he, hw.symm⟩
/-- No header. -/
abbrev noH : Array Value := #[.int .i64 0, .int .i64 0, .int .i64 0, .string ⟨#[]⟩, .string ⟨#[]⟩]
theorem noH_none : HdrAt = fun W g ty ver hops mark f t => W.heap[g]? = some (.cells #[.int .i64 ver, .int .i64 hops, .int .i64 mark, .string f, .string t] ty (0, 0)) := rfl
/-- In the midst of a header: k bytes are taken, no result is laid yet in block g, and nothing else has turned. -/
def PS (W : World) (g Bs Ba : Nat) (s : ByteArray) (k : Nat) (W' : World) : Prop := Tk W' Bs Ba s k ∧ HdrAt W' g 23 0 0 0 ⟨#[]⟩ ⟨#[]⟩ ∧ W.grownBy W' (some Ba) ∧ (Bs < g ∧ Ba < g) ∧ W.heap.size = g
section
variable {W W' : World} {g Bs Ba k : Nat} {s : ByteArray}
theorem PS.begun (h : Tk W Bs Ba s k) : PS W W.heap.size Bs Ba s k (W.alloc (.cells noH 23)) :=
  ⟨h.kept (World.grownBy_alloc W _ none) (by simp) (by simp), heap_alloc_new W _, World.grownBy_alloc W _ _, ⟨h.1.lt, h.2.1.lt⟩, rfl⟩
theorem PS.to {k' : Nat} {X : World} (h : PS W g Bs Ba s k W') (ht : Tk X Bs Ba s k') (hg : W'.grownBy X (some Ba)) : PS W g Bs Ba s k' X :=
  ⟨ht, (hg.block g h.2.1.lt (by have := h.2.2.2.1.2; intro e; injection e; omega)).trans h.2.1, grown_trans h.2.2.1 hg, h.2.2.2⟩
theorem PS.later {X : World} (h : PS W g Bs Ba s k W') (hb : Below W'.heap.size W' X) : PS W g Bs Ba s k X := h.to (h.1.later hb) (grownBy_of_below hb)
theorem PS.drew (h : PS W g Bs Ba s k W') : PS W g Bs Ba s k W'.drew := h.later (Below.refl _ _).drew
theorem PS.num (hs : s.size ≤ maxLen) (hk : k + 2 ≤ s.size) (h : PS W g Bs Ba s k W') : Calls Tryd.prog 24 #[nextV Bs Ba] W' fun e X => e = .returned (.int .i64 (Go.Proofs.YtgodhbliamlclaaDoor.num s.data.toList k : Nat)) ∧ PS W g Bs Ba s (k + 2) X :=
  (number_two Bs Ba s hs k hk W' h.1).mono fun e X ⟨he, ht, hg⟩ => ⟨he, h.to ht hg⟩
theorem PS.byte (hs : s.size ≤ maxLen) (hk : k < s.size) (h : PS W g Bs Ba s k W') : Calls Tryd.prog 32 #[.pointer (some ⟨Ba, 0, none⟩), .pointer (some ⟨Bs, 0, none⟩)] W' fun e X => e = .returned (.int .u8 (byteAt s.data.toList k : Nat)) ∧ PS W g Bs Ba s (k + 1) X :=
  (next_any Bs Ba s hs k hk W' h.1).mono fun e X ⟨he, ht, hg⟩ => ⟨he, h.to ht hg⟩
theorem PS.text (hs : s.size ≤ 1000000) (n : Nat) (z : Int) (hz : z = (n : Int)) (hk : k + n ≤ s.size) (h : PS W g Bs Ba s k W') : Calls Tryd.prog 26 #[nextV Bs Ba, .int .i64 z] W' fun e X => e = .returned (.string (cutB s k n)) ∧ PS W g Bs Ba s (k + n) X := by
  subst hz
  exact (text_any Bs Ba s hs k n hk W' h.1).mono fun e X ⟨he, ht, hg⟩ => ⟨he, h.to ht hg⟩
theorem PS.check (a b : ByteArray) (ha : a.size ≤ 300000) (hb : b.size ≤ 300000) (h : PS W g Bs Ba s k W') : Calls Tryd.prog 31 #[.string a, .string b] W' fun e X => e = .returned (.int .i64 (ckB a b : Nat)) ∧ PS W g Bs Ba s k X :=
  (check4_any a b ha hb W').mono fun e X ⟨he, hb⟩ => ⟨he, h.later hb⟩
/-- The result is laid. -/
theorem PS.laid (h : PS W g Bs Ba s k W') (cs : Array Value) : Tk (W'.setRow g cs) Bs Ba s k ∧ (W'.setRow g cs).heap[g]? = some (.cells cs 23 (0, 0)) ∧ W.grownBy (W'.setRow g cs) (some Ba) := by
  have hne : ∀ j, j < W.heap.size → j ≠ g := fun j hj => by have := h.2.2.2.2; omega
  have hBa : Ba ≠ g := by have := h.2.2.2.1.2; omega
  have hBs : Bs ≠ g := by have := h.2.2.2.1.1; omega
  refine ⟨⟨(setRow_other W' g Bs cs hBs).trans h.1.1, (setRow_other W' g Ba cs hBa).trans h.1.2.1, h.1.2.2⟩, setRow_heap W' g _ cs _ _ h.2.1, ⟨h.2.2.1.os, h.2.2.1.tape, h.2.2.1.output, ?_, fun j hj hn => (setRow_other W' g j cs (hne j hj)).trans (h.2.2.1.block j hj hn)⟩⟩
  have := h.2.2.1.size
  simpa using this
end
theorem neVal (a b : Nat) : (((a : Int) != (b : Int)) = true ∧ a ≠ b) ∨ (((a : Int) != (b : Int)) = false ∧ a = b) := by
  by_cases h : a = b
  · exact .inr ⟨by simp [h], h⟩
  · exact .inl ⟨by simp; omega, h⟩
section
variable {W : World} {g : Nat} {ty : TypeId} {ver hops mark : Int} {f t : ByteArray}
theorem HdrAt.free0 (h : HdrAt W g ty ver hops mark f t) : W.frozen? ⟨g, 0, none⟩ = false := frozen_of_row h 0
theorem HdrAt.free1 (h : HdrAt W g ty ver hops mark f t) : W.frozen? ⟨g, 1, none⟩ = false := frozen_of_row h 1
theorem HdrAt.free2 (h : HdrAt W g ty ver hops mark f t) : W.frozen? ⟨g, 2, none⟩ = false := frozen_of_row h 2
theorem HdrAt.free3 (h : HdrAt W g ty ver hops mark f t) : W.frozen? ⟨g, 3, none⟩ = false := frozen_of_row h 3
theorem HdrAt.free4 (h : HdrAt W g ty ver hops mark f t) : W.frozen? ⟨g, 4, none⟩ = false := frozen_of_row h 4
end
/-- A header's cells in block g3. -/
abbrev Lie (w' : World) (g3 : Nat) (ver hops mark : Int) (f t : ByteArray) : Prop :=
  w'.cell? ⟨g3, 0, none⟩ = some (.int .i64 ver) ∧ w'.cell? ⟨g3, 1, none⟩ = some (.int .i64 hops) ∧ w'.cell? ⟨g3, 2, none⟩ = some (.int .i64 mark) ∧ w'.cell? ⟨g3, 3, none⟩ = some (.string f) ∧ w'.cell? ⟨g3, 4, none⟩ = some (.string t)
theorem lie_of {W : World} {g : Nat} {ty : TypeId} {ver hops mark : Int} {f t : ByteArray} (h : HdrAt W g ty ver hops mark f t) : Lie W g ver hops mark f t := ⟨h.c0, h.c1, h.c2, h.c3, h.c4⟩
theorem five_sets (w : World) (g : Nat) (ty : TypeId) (o0 o1 o2 o3 o4 a b c d e : Value) (h : w.heap[g]? = some (.cells #[o0, o1, o2, o3, o4] ty (0, 0))) :
    ∃ R1 R2 R3 R4 : World, w.setCell ⟨g, 0, none⟩ a = R1 ∧ R1.setCell ⟨g, 1, none⟩ b = R2 ∧ R2.setCell ⟨g, 2, none⟩ c = R3 ∧ R3.setCell ⟨g, 3, none⟩ d = R4 ∧ R4.setCell ⟨g, 4, none⟩ e = w.setRow g #[a, b, c, d, e] ∧
      w.cell? ⟨g, 0, none⟩ = some o0 ∧ R1.cell? ⟨g, 1, none⟩ = some o1 ∧ R2.cell? ⟨g, 2, none⟩ = some o2 ∧ R3.cell? ⟨g, 3, none⟩ = some o3 ∧ R4.cell? ⟨g, 4, none⟩ = some o4 ∧
      w.frozen? ⟨g, 0, none⟩ = false ∧ R1.frozen? ⟨g, 1, none⟩ = false ∧ R2.frozen? ⟨g, 2, none⟩ = false ∧ R3.frozen? ⟨g, 3, none⟩ = false ∧ R4.frozen? ⟨g, 4, none⟩ = false := by
  have h1 := setRow_heap w g _ #[a, o1, o2, o3, o4] _ _ h
  have h2 := setRow_heap w g _ #[a, b, o2, o3, o4] _ _ h
  have h3 := setRow_heap w g _ #[a, b, c, o3, o4] _ _ h
  have h4 := setRow_heap w g _ #[a, b, c, d, o4] _ _ h
  refine ⟨w.setRow g #[a, o1, o2, o3, o4], w.setRow g #[a, b, o2, o3, o4], w.setRow g #[a, b, c, o3, o4], w.setRow g #[a, b, c, d, o4], ?_, ?_, ?_, ?_, ?_, ?_, ?_, ?_, ?_, ?_, frozen_of_row h 0, frozen_of_row h1 1, frozen_of_row h2 2, frozen_of_row h3 3, frozen_of_row h4 4⟩
  · rw [setCell_eq_setRow w g 0 _ _ _ _ h]; rfl
  · rw [setCell_eq_setRow _ g 1 _ _ _ _ h1, setRow_setRow]; rfl
  · rw [setCell_eq_setRow _ g 2 _ _ _ _ h2, setRow_setRow]; rfl
  · rw [setCell_eq_setRow _ g 3 _ _ _ _ h3, setRow_setRow]; rfl
  · rw [setCell_eq_setRow _ g 4 _ _ _ _ h4, setRow_setRow]; rfl
  · rw [cell_of_row _ g 0 _ _ _ h]; rfl
  · rw [cell_of_row _ g 1 _ _ _ h1]; rfl
  · rw [cell_of_row _ g 2 _ _ _ h2]; rfl
  · rw [cell_of_row _ g 3 _ _ _ h3]; rfl
  · rw [cell_of_row _ g 4 _ _ _ h4]; rfl
set_option maxHeartbeats 4000000 in
/-- What is taken out of a header of V4. -/
theorem parse4_any (Bs Ba : Nat) (s : ByteArray) (hs : s.size ≤ 1000000) (h20 : 20 ≤ s.size) (W : World) (h : Tk W Bs Ba s 0) (R : Value)
    (hR1 : num s.data.toList 10 ≠ ckB (s.extract 0 10) (s.extract 12 20) → R = .tuple #[.agg noH, .int .i64 0, .int .i64 5])
    (hR2 : num s.data.toList 10 = ckB (s.extract 0 10) (s.extract 12 20) → (num s.data.toList 0 ≠ 17664 ∨ num s.data.toList 6 ≠ 16384 ∨ byteAt s.data.toList 9 ≠ 132 ∨ num s.data.toList 2 < 20) → R = .tuple #[.agg noH, .int .i64 0, .int .i64 2])
    (hR3 : num s.data.toList 10 = ckB (s.extract 0 10) (s.extract 12 20) → num s.data.toList 0 = 17664 → num s.data.toList 6 = 16384 → byteAt s.data.toList 9 = 132 → 20 ≤ num s.data.toList 2 →
      R = .tuple #[.agg #[.int .i64 4, .int .i64 (byteAt s.data.toList 8 : Nat), .int .i64 (num s.data.toList 4 : Nat), .string (cutB s 12 4), .string (cutB s 16 4)], .int .i64 ((num s.data.toList 2 : Nat) - 20 : Int), .int .i64 (heldE ((s.size : Int) - 20) ((num s.data.toList 2 : Nat) - 20 : Int))]) :
    Calls Tryd.prog 33 #[.string s, nextV Bs Ba] W fun e W' => e = .returned R ∧ Tk W' Bs Ba s 20 ∧ W.grownBy W' (some Ba) := by
  have HP : Hid (PS W W.heap.size Bs Ba s 0 (W.alloc (.cells noH 23))) := Lib.hid (PS.begun h)
  have hs2 : s.size ≤ maxLen := by unfold maxLen; omega
  have H0 := Lib.hid (fun X (h : PS W W.heap.size Bs Ba s 0 X) => h.num hs2 (by omega))
  have H2 := Lib.hid (fun X (h : PS W W.heap.size Bs Ba s 2 X) => h.num hs2 (by omega))
  have H4 := Lib.hid (fun X (h : PS W W.heap.size Bs Ba s 4 X) => h.num hs2 (by omega))
  have H6 := Lib.hid (fun X (h : PS W W.heap.size Bs Ba s 6 X) => h.num hs2 (by omega))
  have H8 := Lib.hid (fun X (h : PS W W.heap.size Bs Ba s 8 X) => h.byte hs2 (by omega))
  have H9 := Lib.hid (fun X (h : PS W W.heap.size Bs Ba s 9 X) => h.byte hs2 (by omega))
  have H10 := Lib.hid (fun X (h : PS W W.heap.size Bs Ba s 10 X) => h.num hs2 (by omega))
  have H12 := Lib.hid (fun X (h : PS W W.heap.size Bs Ba s 12 X) => h.text hs 4 4 rfl (by omega))
  have H16 := Lib.hid (fun X (h : PS W W.heap.size Bs Ba s 16 X) => h.text hs 4 4 rfl (by omega))
  simp only [Nat.zero_add, Nat.reduceAdd] at H0 H2 H4 H6 H8 H9 H10 H12 H16
  have HC := Lib.hid (fun X (h : PS W W.heap.size Bs Ba s 20 X) => h.check (s.extract 0 10) (s.extract 12 20) (by rw [ByteArray.size_extract]; omega) (by rw [ByteArray.size_extract]; omega))
  have b0 := num_lt s.data.toList 0
  have b2 := num_lt s.data.toList 2
  have b4 := num_lt s.data.toList 4
  have b6 := num_lt s.data.toList 6
  have b8 := byteAt_lt s.data.toList 8
  have b9 := byteAt_lt s.data.toList 9
  have HR1 := Lib.hid hR1
  have HR2 := Lib.hid hR2
  have HR3 := Lib.hid hR3
  clear hR1 hR2 hR3 h hs2
  generalize num s.data.toList 0 = n0 at *
  generalize num s.data.toList 2 = n2 at *
  generalize num s.data.toList 4 = n4 at *
  generalize num s.data.toList 6 = n6 at *
  generalize byteAt s.data.toList 8 = n8 at *
  generalize byteAt s.data.toList 9 = n9 at *
  generalize num s.data.toList 10 = n10 at *
  generalize cutB s 12 4 = f at *
  generalize cutB s 16 4 = t at *
  generalize ckB (s.extract 0 10) (s.extract 12 20) = c at *
  have z1 : (10 : Int) ≤ (s.size : Int) := by omega
  have z2 : (12 : Int) ≤ (s.size : Int) := by omega
  have z3 : (20 : Int) ≤ (s.size : Int) := by omega
  unfold nextV at H0 H2 H4 H6 H10 H12 H16 ⊢
  go_enter Tryd.func33, Tryd.ntmps33
  go_wp2_with (first
    | (go_at_call 24; ((with_reducible refine (H0.out _ HP.out).mono ?_); rintro e w1 ⟨rfl, hp1⟩); replace HP := Lib.hid hp1; clear hp1)
    | (go_at_call 24; ((with_reducible refine (H2.out _ HP.out).mono ?_); rintro e w1 ⟨rfl, hp1⟩); replace HP := Lib.hid hp1; clear hp1)
    | (go_at_call 24; ((with_reducible refine (H4.out _ HP.out).mono ?_); rintro e w1 ⟨rfl, hp1⟩); replace HP := Lib.hid hp1; clear hp1)
    | (go_at_call 24; ((with_reducible refine (H6.out _ HP.out).mono ?_); rintro e w1 ⟨rfl, hp1⟩); replace HP := Lib.hid hp1; clear hp1)
    | (go_at_call 24; ((with_reducible refine (H10.out _ HP.out).mono ?_); rintro e w1 ⟨rfl, hp1⟩); replace HP := Lib.hid hp1; clear hp1)
    | (go_at_call 32; ((with_reducible refine (H8.out _ HP.out).mono ?_); rintro e w1 ⟨rfl, hp1⟩); replace HP := Lib.hid hp1; clear hp1)
    | (go_at_call 32; ((with_reducible refine (H9.out _ HP.out).mono ?_); rintro e w1 ⟨rfl, hp1⟩); replace HP := Lib.hid hp1; clear hp1)
    | (go_at_call 26; ((with_reducible refine (H12.out _ HP.out).mono ?_); rintro e w1 ⟨rfl, hp1⟩); replace HP := Lib.hid hp1; clear hp1)
    | (go_at_call 26; ((with_reducible refine (H16.out _ HP.out).mono ?_); rintro e w1 ⟨rfl, hp1⟩); replace HP := Lib.hid hp1; clear hp1))
  have HPd := Lib.hid (PS.drew HP.out)
  clear H0 H2 H4 H6 H8 H9 H10 H12 H16
  go_region_held3 (fun w' => Hid (PS W W.heap.size Bs Ba s 20 w')) (first | exact HPd | assumption)
    (first | (go_at_call 31; (with_reducible refine (HC.out _ (Hid.out ?_)).mono ?_); assumption; rintro e w2 ⟨rfl, hp2⟩; replace hp2 := Lib.hid hp2))
  clear HC HPd HP
  have HX := Lib.hid hp2.out.2.1
  have HI : Hid ((Tryd.prog.info? 23).map (·.size) = some noH.size) := Lib.hid hsize5
  have HE : Hid (noH.all (·.oneCell') = true) := Lib.hid (by kernel_rfl)
  rcases neVal n10 c with ⟨hne, hne'⟩ | ⟨hne, hne'⟩
  · have HRR := Lib.hid (HR1.out hne')
    clear HR1 HR2 HR3
    go_wp2_with (refine wpList_store_row rfl 23 (.tmp 4) (.tmp 46) rfl W.heap.size noH rfl rfl 23 noH HX.out HI.out rfl HE.out ?_)
    have hl := hp2.out.laid noH
    refine bodyPost_ret (results_row2 (P := Tryd.prog) rfl _ _ W.heap.size 23 noH (0, 0) _ rfl hl.2.1 Tryd.underlying23 rfl hsize5) rfl ⟨?_, hl.1, hl.2.2⟩
    rw [HRR.out]
    rfl
  have HR2' := Lib.hid (HR2.out hne')
  have HR3' := Lib.hid (HR3.out hne')
  clear HR1 HR2 HR3
  rcases neVal n0 17664 with ⟨h1, h1'⟩ | ⟨h1, h1'⟩
  rotate_left
  rcases neVal n6 16384 with ⟨h2, h2'⟩ | ⟨h2, h2'⟩
  rotate_left
  rcases neVal n9 132 with ⟨h3, h3'⟩ | ⟨h3, h3'⟩
  rotate_left
  by_cases h4 : n2 < 20
  rotate_left
  · have h4' : ¬ (n2 : Int) < 20 := by omega
    have HRR := Lib.hid (HR3'.out h1' h2' h3' (by omega))
    rw [show ((17664 : Nat) : Int) = 17664 from rfl] at h1
    rw [show ((16384 : Nat) : Int) = 16384 from rfl] at h2
    rw [show ((132 : Nat) : Int) = 132 from rfl] at h3
    clear HR2' HR3' h1' h2' h3'
    have hw1 : IntKind.i64.wrap ((n2 : Int) - 20) = (n2 : Int) - 20 := wrap_i64_id _ (by omega) (by omega)
    have hw2 : IntKind.i64.wrap ((s.size : Int) - 20) = (s.size : Int) - 20 := wrap_i64_id _ (by omega) (by omega)
    go_wp2_with fail
    have HP3 := Lib.hid (hp2.out.later ((Below.refl w2.heap.size w2).alloc (Nat.le_refl _) (.cells #[.int .i64 4, .int .i64 n8, .int .i64 n4, .string f, .string t] 23)))
    have HG3 := Lib.hid (show W.heap.size < w2.heap.size from HX.out |> fun h => (Array.getElem?_eq_some_iff.1 h).1)
    have HN3 : Hid (HdrAt (w2.alloc (.cells #[.int .i64 4, .int .i64 n8, .int .i64 n4, .string f, .string t] 23)) w2.heap.size 23 4 n8 n4 f t) := Lib.hid (heap_alloc_new w2 _)
    generalize w2.alloc (.cells #[.int .i64 4, .int .i64 n8, .int .i64 n4, .string f, .string t] 23) = w3 at *
    generalize w2.heap.size = g3 at *
    have HX3 := Lib.hid HP3.out.2.1
    have HX4 : Hid (w3.drew.heap[W.heap.size]? = some (.cells noH 23 (0, 0))) := Lib.hid HX3.out
    have hg3 := HG3.out
    have hH4 : HdrAt (w3.drew.setRow W.heap.size #[.int .i64 4, .int .i64 n8, .int .i64 n4, .string f, .string t]) g3 23 4 n8 n4 f t := (setRow_other w3.drew W.heap.size g3 _ (by omega)).trans HN3.out
    have HL := Lib.hid ((PS.drew HP3.out).laid #[.int .i64 4, .int .i64 n8, .int .i64 n4, .string f, .string t])
    have HK0 := Lib.hid (lie_of (show HdrAt w3.drew g3 23 4 n8 n4 f t from HN3.out))
    have HK1 := Lib.hid (lie_of hH4)
    have HHD := Lib.hid (fun X => held_any ((s.size : Int) - 20) ((n2 : Int) - 20) X)
    obtain ⟨R1, R2, R3, R4, hr1, hr2, hr3, hr4, hr5, e0, e1, e2, e3, e4, f0, f1, f2, f3, f4⟩ := five_sets w3.drew W.heap.size _ _ _ _ _ _ (.int .i64 4) (.int .i64 n8) (.int .i64 n4) (.string f) (.string t) HX4.out
    generalize w3.drew.setRow W.heap.size #[.int .i64 4, .int .i64 n8, .int .i64 n4, .string f, .string t] = R5 at *
    clear hH4 hg3 HX4 HX3 HN3 HP3 HG3
    go_region_held3 (fun w' => Lie w' g3 4 n8 n4 f t)
      (first | exact HK0.out | exact HK1.out | (go_split_ands; refine ⟨?_, ?_, ?_, ?_, ?_⟩ <;> assumption))
      (first
        | (go_at_call 40; (with_reducible refine (HHD.out _).mono ?_); rintro e w4 ⟨rfl, rfl⟩))
    clear hr1 hr2 hr3 hr4 hr5 e0 e1 e2 e3 e4 f0 f1 f2 f3 f4 HK0
    go_wp2_with fail
    refine bodyPost_ret (results_row2 (P := Tryd.prog) rfl _ _ W.heap.size 23 #[.int .i64 4, .int .i64 n8, .int .i64 n4, .string f, .string t] (0, 0) _ rfl HL.out.2.1 Tryd.underlying23 rfl hsize5) rfl ⟨?_, HL.out.1, HL.out.2.2⟩
    rw [HRR.out]
    rfl
  all_goals
    have HRR := Lib.hid (HR2'.out (by omega))
    clear HR2' HR3'
    rw [show ((17664 : Nat) : Int) = 17664 from rfl] at h1
    try rw [show ((16384 : Nat) : Int) = 16384 from rfl] at h2
    try rw [show ((132 : Nat) : Int) = 132 from rfl] at h3
    try (have h4' : (n2 : Int) < 20 := by omega)
    clear h1'
    try clear h2'
    try clear h3'
    go_wp2_with (refine wpList_store_row rfl 23 (.tmp 4) (.tmp 61) rfl W.heap.size noH rfl rfl 23 noH HX.out HI.out rfl HE.out ?_)
    have hl := hp2.out.laid noH
    refine bodyPost_ret (results_row2 (P := Tryd.prog) rfl _ _ W.heap.size 23 noH (0, 0) _ rfl hl.2.1 Tryd.underlying23 rfl hsize5) rfl ⟨?_, hl.1, hl.2.2⟩
    rw [HRR.out]
    rfl
end Go.Proofs.YtgodhbliamlclaaDoor
