/-
  Package cookie: Build: a contract.
-/
import Derived.Test.YthfiebdpoleeeaaDoorBd9
import Derived.Deep.WholeRow
namespace Go.Proofs.YthfiebdpoleeeaaDoor
open Go.RowKit
set_option linter.unusedVariables false

theorem size14 : (Tryd.prog.info? 25).map (·.size) = some 14 := by kernel_rfl
theorem size14r : (Tryd.prog.info? 32).map (·.size) = some 14 := by kernel_rfl
theorem cellsS_one (s : St) : (cellsS s).all (·.oneCell') = true := by
  obtain ⟨a0, a1, a2, a3, a4, a5, a6, b0, b1, b2, b3, peer, made, life⟩ := s
  kernel_rfl
/-- A state lies in block n0; what was there lies as before. -/
structure StS (T : TypeId) (n0 : Nat) (s : St) (w W : World) : Prop where
  own : W.heap[n0]? = some (.cells (cellsS s) T (0, 0))
  below : Below w.heap.size w W
  base : w.heap.size ≤ n0
theorem StS.lt {T n0 : Nat} {s : St} {w W : World} (h : StS T n0 s w W) : n0 < W.heap.size := (Array.getElem?_eq_some_iff.1 h.own).1
theorem StS.later {T n0 : Nat} {s : St} {w W W' : World} (h : StS T n0 s w W) (hb : Below W.heap.size W W') : StS T n0 s w W' :=
  ⟨(hb.block _ h.lt).trans h.own, h.below.trans (hb.mono h.below.size), h.base⟩
theorem StS.drew {T n0 : Nat} {s : St} {w W : World} (h : StS T n0 s w W) : StS T n0 s w W.drew := ⟨h.own, h.below.drew, h.base⟩
theorem StS.new (T : TypeId) (s : St) (w : World) : StS T w.heap.size s w (w.alloc (.cells (cellsS s) T)) := ⟨heap_alloc_new w _, (Below.refl _ _).alloc (Nat.le_refl _) _, Nat.le_refl _⟩
theorem sizeS (s : St) : (Tryd.prog.info? 25).map (·.size) = some (cellsS s).size := size14
theorem sizeSr (s : St) : (Tryd.prog.info? 32).map (·.size) = some (cellsS s).size := size14r
theorem buildK_right (key : ByteArray) {s : St} (h : rightS s = true) : buildK key s = (cookieB key s, 0) := by unfold buildK; rw [if_pos h]
theorem buildK_wrong (key : ByteArray) {s : St} (h : rightS s = false) : buildK key s = (⟨#[]⟩, 1) := by unfold buildK; rw [if_neg (by simp [h])]
set_option maxHeartbeats 2000000 in
set_option maxRecDepth 100000 in
theorem build_any9 (key : ByteArray) (s : St) (hw : WfS s) (hk : key.size ≤ 900000) (w : World) (hK : Kub w) :
    Calls Tryd.prog 11 #[.string key, .agg (cellsS s)] w fun e w' => e = .returned (.tuple #[.string (buildK key s).1, .int .i64 ((buildK key s).2 : Nat)]) ∧ Below w.heap.size w w' := by
  have CR := Lib.hid (fun W => right_any9 s W)
  have HS := Lib.hid (StS.new 25 s w)
  have HI := Lib.hid (sizeS s)
  by_cases hr : rightS s = true
  · rw [buildK_right key hr]
    have hp := (right_of hr).peer
    have hts := textS_size s
    have CT := Lib.hid (fun W => text_any9 s hw (right_of hr) W)
    have CS := Lib.hid (fun W (h : Kub W) => hsum_any key (textS s) hk (by omega) W h)
    have hz := hmacOf_size key (textS s)
    have HCB := Lib.hid (show cookieB key s = hmacOf key (textS s) ++ textS s from rfl)
    rw [hr] at CR
    generalize cookieB key s = r at *
    generalize hmacOf key (textS s) = d at *
    generalize textS s = t at *
    have q1 : ¬ 9223372036854775807 < d.size + t.size := by omega
    have HK := Lib.hid hK
    clear hK hr hw hk
    go_enter Tryd.func11, Tryd.ntmps11
    go_wp2_with (first
      | (refine wpList_load_row rfl 25 (.tmp 3) rfl w.heap.size rfl 25 (cellsS s) (0, 0) _ HS.out.own Tryd.underlying25 rfl HI.out ?_)
      | (go_at_call 17; ((with_reducible refine (CR.out _).mono ?_); rintro e w1 ⟨rfl, hb1⟩); replace HS := Lib.hid (HS.out.later hb1); clear hb1)
      | (go_at_call 27; ((with_reducible refine (CT.out _).mono ?_); rintro e w2 ⟨rfl, hb1⟩); replace HS := Lib.hid (HS.out.later hb1); clear hb1)
      | (go_at_call 28; ((with_reducible refine (CS.out _ (HK.out.later HS.out.below)).mono ?_); rintro e w3 ⟨rfl, hb1⟩); replace HS := Lib.hid (HS.out.later hb1); clear hb1))
    go_ret2
    exact ⟨by rw [HCB.out]; rfl, HS.out.below⟩
  · rw [buildK_wrong key (by simpa using hr)]
    rw [show rightS s = false by simpa using hr] at CR
    clear hr hw hk hK
    go_enter Tryd.func11, Tryd.ntmps11
    go_wp2_with (first
      | (refine wpList_load_row rfl 25 (.tmp 3) rfl w.heap.size rfl 25 (cellsS s) (0, 0) _ HS.out.own Tryd.underlying25 rfl HI.out ?_)
      | (go_at_call 17; ((with_reducible refine (CR.out _).mono ?_); rintro e w1 ⟨rfl, hb1⟩); replace HS := Lib.hid (HS.out.later hb1); clear hb1))
    go_ret2
    exact ⟨rfl, HS.out.below⟩
end Go.Proofs.YthfiebdpoleeeaaDoor
