/-
  Package ip: headers of V6 taken out of bytes: contracts.
-/
import Derived.Test.YtgodhbliamlclaaDoorParse
namespace Go.Proofs.YtgodhbliamlclaaDoor
open Go.RowKit
set_option linter.unusedVariables false

set_option maxHeartbeats 4000000 in
/-- What is taken out of a header of V6. -/
theorem parse6_any (Bs Ba : Nat) (s : ByteArray) (hs : s.size ≤ 1000000) (h40 : 40 ≤ s.size) (W : World) (h : Tk W Bs Ba s 0) (R : Value)
    (hR2 : (num s.data.toList 0 ≠ 24576 ∨ num s.data.toList 2 ≠ 0 ∨ byteAt s.data.toList 6 ≠ 132) → R = .tuple #[.agg noH, .int .i64 0, .int .i64 2])
    (hR3 : num s.data.toList 0 = 24576 → num s.data.toList 2 = 0 → byteAt s.data.toList 6 = 132 →
      R = .tuple #[.agg #[.int .i64 6, .int .i64 (byteAt s.data.toList 7 : Nat), .int .i64 0, .string (cutB s 8 16), .string (cutB s 24 16)], .int .i64 (num s.data.toList 4 : Nat), .int .i64 (heldE ((s.size : Int) - 40) (num s.data.toList 4 : Nat))]) :
    Calls Tryd.prog 34 #[.string s, nextV Bs Ba] W fun e W' => e = .returned R ∧ Tk W' Bs Ba s 40 ∧ W.grownBy W' (some Ba) := by
  have HP : Hid (PS W W.heap.size Bs Ba s 0 (W.alloc (.cells noH 23))) := Lib.hid (PS.begun h)
  have hs2 : s.size ≤ maxLen := by unfold maxLen; omega
  have H0 := Lib.hid (fun X (h : PS W W.heap.size Bs Ba s 0 X) => h.num hs2 (by omega))
  have H2 := Lib.hid (fun X (h : PS W W.heap.size Bs Ba s 2 X) => h.num hs2 (by omega))
  have H4 := Lib.hid (fun X (h : PS W W.heap.size Bs Ba s 4 X) => h.num hs2 (by omega))
  have H6 := Lib.hid (fun X (h : PS W W.heap.size Bs Ba s 6 X) => h.byte hs2 (by omega))
  have H7 := Lib.hid (fun X (h : PS W W.heap.size Bs Ba s 7 X) => h.byte hs2 (by omega))
  have H8 := Lib.hid (fun X (h : PS W W.heap.size Bs Ba s 8 X) => h.text hs 16 16 rfl (by omega))
  have H24 := Lib.hid (fun X (h : PS W W.heap.size Bs Ba s 24 X) => h.text hs 16 16 rfl (by omega))
  simp only [Nat.zero_add, Nat.reduceAdd] at H0 H2 H4 H6 H7 H8 H24
  have b0 := num_lt s.data.toList 0
  have b2 := num_lt s.data.toList 2
  have b4 := num_lt s.data.toList 4
  have b6 := byteAt_lt s.data.toList 6
  have b7 := byteAt_lt s.data.toList 7
  have HR2 := Lib.hid hR2
  have HR3 := Lib.hid hR3
  clear hR2 hR3 h hs2
  generalize num s.data.toList 0 = n0 at *
  generalize num s.data.toList 2 = n2 at *
  generalize num s.data.toList 4 = n4 at *
  generalize byteAt s.data.toList 6 = n6 at *
  generalize byteAt s.data.toList 7 = n7 at *
  generalize cutB s 8 16 = f at *
  generalize cutB s 24 16 = t at *
  have z3 : (40 : Int) ≤ (s.size : Int) := by omega
  unfold nextV at H0 H2 H4 H8 H24 ⊢
  have HI : Hid ((Tryd.prog.info? 23).map (·.size) = some noH.size) := Lib.hid hsize5
  have HE : Hid (noH.all (·.oneCell') = true) := Lib.hid (by kernel_rfl)
  rcases neVal n0 24576 with ⟨h1, h1'⟩ | ⟨h1, h1'⟩
  rotate_left
  rcases neVal n2 0 with ⟨h2, h2'⟩ | ⟨h2, h2'⟩
  rotate_left
  rcases neVal n6 132 with ⟨h3, h3'⟩ | ⟨h3, h3'⟩
  rotate_left
  · have HRR := Lib.hid (HR3.out h1' h2' h3')
    rw [show ((24576 : Nat) : Int) = 24576 from rfl] at h1
    rw [show ((0 : Nat) : Int) = 0 from rfl] at h2
    rw [show ((132 : Nat) : Int) = 132 from rfl] at h3
    clear HR2 HR3 h1' h2' h3'
    have hw2 : IntKind.i64.wrap ((s.size : Int) - 40) = (s.size : Int) - 40 := wrap_i64_id _ (by omega) (by omega)
    go_enter Tryd.func34, Tryd.ntmps34
    go_wp2_with (first
    | (go_at_call 24; ((with_reducible refine (H0.out _ HP.out).mono ?_); rintro e w1 ⟨rfl, hp1⟩); replace HP := Lib.hid hp1; clear hp1)
    | (go_at_call 24; ((with_reducible refine (H2.out _ HP.out).mono ?_); rintro e w1 ⟨rfl, hp1⟩); replace HP := Lib.hid hp1; clear hp1)
    | (go_at_call 24; ((with_reducible refine (H4.out _ HP.out).mono ?_); rintro e w1 ⟨rfl, hp1⟩); replace HP := Lib.hid hp1; clear hp1)
    | (go_at_call 32; ((with_reducible refine (H6.out _ HP.out).mono ?_); rintro e w1 ⟨rfl, hp1⟩); replace HP := Lib.hid hp1; clear hp1)
    | (go_at_call 32; ((with_reducible refine (H7.out _ HP.out).mono ?_); rintro e w1 ⟨rfl, hp1⟩); replace HP := Lib.hid hp1; clear hp1)
    | (go_at_call 26; ((with_reducible refine (H8.out _ HP.out).mono ?_); rintro e w1 ⟨rfl, hp1⟩); replace HP := Lib.hid hp1; clear hp1)
    | (go_at_call 26; ((with_reducible refine (H24.out _ HP.out).mono ?_); rintro e w1 ⟨rfl, hp1⟩); replace HP := Lib.hid hp1; clear hp1))
    clear H0 H2 H4 H6 H7 H8 H24
    have HX := Lib.hid HP.out.2.1
    have HP3 := Lib.hid (HP.out.later ((Below.refl w1.heap.size w1).alloc (Nat.le_refl _) (.cells #[.int .i64 6, .int .i64 n7, .int .i64 0, .string f, .string t] 23)))
    have HG3 := Lib.hid (show W.heap.size < w1.heap.size from HX.out |> fun h => (Array.getElem?_eq_some_iff.1 h).1)
    have HN3 : Hid (HdrAt (w1.alloc (.cells #[.int .i64 6, .int .i64 n7, .int .i64 0, .string f, .string t] 23)) w1.heap.size 23 6 n7 0 f t) := Lib.hid (heap_alloc_new w1 _)
    generalize w1.alloc (.cells #[.int .i64 6, .int .i64 n7, .int .i64 0, .string f, .string t] 23) = w3 at *
    generalize w1.heap.size = g3 at *
    have HX3 := Lib.hid HP3.out.2.1
    have HX4 : Hid (w3.drew.heap[W.heap.size]? = some (.cells noH 23 (0, 0))) := Lib.hid HX3.out
    have hg3 := HG3.out
    have hH4 : HdrAt (w3.drew.setRow W.heap.size #[.int .i64 6, .int .i64 n7, .int .i64 0, .string f, .string t]) g3 23 6 n7 0 f t := (setRow_other w3.drew W.heap.size g3 _ (by omega)).trans HN3.out
    have HL := Lib.hid ((PS.drew HP3.out).laid #[.int .i64 6, .int .i64 n7, .int .i64 0, .string f, .string t])
    have HK0 := Lib.hid (lie_of (show HdrAt w3.drew g3 23 6 n7 0 f t from HN3.out))
    have HK1 := Lib.hid (lie_of hH4)
    have HHD := Lib.hid (fun X => held_any ((s.size : Int) - 40) (n4 : Int) X)
    obtain ⟨R1, R2, R3, R4, hr1, hr2, hr3, hr4, hr5, e0, e1, e2, e3, e4, f0, f1, f2, f3, f4⟩ := five_sets w3.drew W.heap.size _ _ _ _ _ _ (.int .i64 6) (.int .i64 n7) (.int .i64 0) (.string f) (.string t) HX4.out
    generalize w3.drew.setRow W.heap.size #[.int .i64 6, .int .i64 n7, .int .i64 0, .string f, .string t] = R5 at *
    clear hH4 hg3 HX4 HX3 HN3 HP3 HG3
    go_region_held3 (fun w' => Lie w' g3 6 n7 0 f t)
      (first | exact HK0.out | exact HK1.out | (go_split_ands; refine ⟨?_, ?_, ?_, ?_, ?_⟩ <;> assumption))
      (first
        | (go_at_call 40; (with_reducible refine (HHD.out _).mono ?_); rintro e w4 ⟨rfl, rfl⟩))
    clear hr1 hr2 hr3 hr4 hr5 e0 e1 e2 e3 e4 f0 f1 f2 f3 f4 HK0
    go_wp2_with fail
    refine bodyPost_ret (results_row2 (P := Tryd.prog) rfl _ _ W.heap.size 23 #[.int .i64 6, .int .i64 n7, .int .i64 0, .string f, .string t] (0, 0) _ rfl HL.out.2.1 Tryd.underlying23 rfl hsize5) rfl ⟨?_, HL.out.1, HL.out.2.2⟩
    rw [HRR.out]
    rfl
  all_goals
    have HRR := Lib.hid (HR2.out (by omega))
    clear HR2 HR3
    rw [show ((24576 : Nat) : Int) = 24576 from rfl] at h1
    try rw [show ((0 : Nat) : Int) = 0 from rfl] at h2
    try rw [show ((132 : Nat) : Int) = 132 from rfl] at h3
    clear h1'
    try clear h2'
    try clear h3'
    go_enter Tryd.func34, Tryd.ntmps34
    go_wp2_with (first
    | (go_at_call 24; ((with_reducible refine (H0.out _ HP.out).mono ?_); rintro e w1 ⟨rfl, hp1⟩); replace HP := Lib.hid hp1; clear hp1)
    | (go_at_call 24; ((with_reducible refine (H2.out _ HP.out).mono ?_); rintro e w1 ⟨rfl, hp1⟩); replace HP := Lib.hid hp1; clear hp1)
    | (go_at_call 24; ((with_reducible refine (H4.out _ HP.out).mono ?_); rintro e w1 ⟨rfl, hp1⟩); replace HP := Lib.hid hp1; clear hp1)
    | (go_at_call 32; ((with_reducible refine (H6.out _ HP.out).mono ?_); rintro e w1 ⟨rfl, hp1⟩); replace HP := Lib.hid hp1; clear hp1)
    | (go_at_call 32; ((with_reducible refine (H7.out _ HP.out).mono ?_); rintro e w1 ⟨rfl, hp1⟩); replace HP := Lib.hid hp1; clear hp1)
    | (go_at_call 26; ((with_reducible refine (H8.out _ HP.out).mono ?_); rintro e w1 ⟨rfl, hp1⟩); replace HP := Lib.hid hp1; clear hp1)
    | (go_at_call 26; ((with_reducible refine (H24.out _ HP.out).mono ?_); rintro e w1 ⟨rfl, hp1⟩); replace HP := Lib.hid hp1; clear hp1)
    | (refine wpList_store_row rfl 23 (.tmp 4) (.tmp 43) rfl W.heap.size noH rfl rfl 23 noH HP.out.2.1 HI.out rfl HE.out ?_))
    have hl := HP.out.laid noH
    refine bodyPost_ret (results_row2 (P := Tryd.prog) rfl _ _ W.heap.size 23 noH (0, 0) _ rfl hl.2.1 Tryd.underlying23 rfl hsize5) rfl ⟨?_, hl.1, hl.2.2⟩
    rw [HRR.out]
    rfl
end Go.Proofs.YtgodhbliamlclaaDoor
