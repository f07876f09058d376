/-
  Package tlv: a row gone over item by item, by a function: its contract, for whatever loop.
-/
import Derived.RangeFuncNested
import Derived.RangeFuncBound
import Derived.RangeFuncCalls
import Derived.RangeFuncLeaves
import Derived.RangeFuncBox
import Derived.Shelf.Abstract
import Derived.Shelf.RegionOpen
import Derived.WalkKit
import Derived.OwnWalkIn
import Derived.TacticsInMore
import Derived.LoopNIn
import Derived.LoopIn
import Derived.Maps.AppendAt
import Derived.Test.YtjdnlolhcjalmaaPlaces
namespace Go.Proofs.Ytjdnlolhcjalmaa
open Go.RowKit Go.Shelf
set_option linter.unusedVariables false

attribute [local go_sem] Oper.semAt_some

/-- What a round is handed: a place, what stands there, and what is wrong with it. -/
def handed (L : List UInt8) (p : Nat) : Array Value := #[.agg #[.int .i64 (p : Int), .int .i64 (firstI (L.drop p)).1, .string (firstI (L.drop p)).2, .int .i64 (errL (L.drop p) : Nat)]]
/-- The text's block lies as it lay, and each block that holds one item. -/
def Kp (Bs : Nat) (W W' : World) : Prop := W'.heap[Bs]? = W.heap[Bs]? ∧ ∀ (b : Nat) (x y : Value), W.heap[b]? = some (Obj.cells #[x, y] 50 (0, 0)) → W'.heap[b]? = W.heap[b]?
theorem Kp.trans {Bs : Nat} {A B C : World} (h : Kp Bs A B) (k : Kp Bs B C) : Kp Bs A C :=
  ⟨k.1.trans h.1, fun b x y hb => (k.2 b x y ((h.2 b x y hb).trans hb)).trans (h.2 b x y hb)⟩
theorem Kp.b {Bs : Nat} {w : World} (hB : Bs < w.heap.size) (W : World) (l : Nat) (o o' : Obj) (hl : w.heap.size ≤ l) (h : W.heap[l]? = some o) (h1 : o.isCells = false) (_ : o.isWalk = false) : Kp Bs W (W.putObj l o') :=
  ⟨World.putObj_heap_other (by omega), fun b x y hb => World.putObj_heap_other (by rintro rfl; rw [h] at hb; cases hb; cases h1)⟩
theorem Kp.refl (Bs : Nat) (W : World) : Kp Bs W W := ⟨rfl, fun _ _ _ _ => rfl⟩
theorem abides_below {β : Type} {B : Nat} {J : β → World → Prop} (h : AbidesFrom B J) {s : β} {A C : World} (hs : J s A) (hb : Below A.heap.size A C) : J s C :=
  h s A C none hs ⟨hb.os, hb.tape, hb.output, hb.size, fun k hk _ => hb.block k hk⟩ (fun r e => by cases e)

set_option maxRecDepth 100000 in
set_option maxHeartbeats 4000000 in
theorem iter_goes (n : Nat) (hn : 1 ≤ n) (l Bs : Nat) (s : ByteArray) (hs : s.size ≤ 1000000) (J Jx : List Nat → World → Prop) (W : World) (hJ : AbidesFrom W.heap.size J)
    (hY : ∀ pre x W, J pre W → pre.length < s.size → YieldAt Fence.wide (n - 1) Try.prog l (handed s.data.toList x) W fun e W' =>
      (e = .returned (.bool true) ∧ J (pre ++ [x]) W' ∧ Kp Bs W W') ∨ (e = .returned (.bool false) ∧ Jx (pre ++ [x]) W'))
    (hc : Boxed W Bs 9 (.string s)) (h0 : J [] W) :
    CallsIn Fence.wide n Try.prog 84 #[.func (.yield l) #[] #[], .pointer (some ⟨Bs, 0, none⟩)] W fun e W' => (∃ v, e = .returned v) ∧
      ((∃ ys, Ends s.data.toList ys ∧ J ys W') ∨ (∃ pre, Begins s.data.toList pre ∧ Jx pre W')) := by
  have hc0 := hc.cell
  have hL := size_list s
  have HF := Lib.hid (show ∀ p, p < s.size → ∀ X, Calls Try.prog 85 #[.string (s.extract p s.size)] X fun e w' => e = .returned (.tuple #[.agg #[.int .i64 (firstI (s.data.toList.drop p)).1, .string (firstI (s.data.toList.drop p)).2], .int .i64 (errL (s.data.toList.drop p) : Nat)]) ∧ Below X.heap.size X w' from fun p hp X => by
    have h := first_any (s.extract p s.size) (by rw [ByteArray.size_extract]; omega) X
    rw [cut_list, List.take_of_length_le (by rw [List.length_drop, ← hL]; exact Nat.le_refl _)] at h
    exact h)
  generalize hLL : s.data.toList = L at *
  have HL := Lib.hid hL
  clear hL hLL
  refine callsIn_of_wp Try.func84 rfl trivial ?_ rfl
  simp only [Try.ntmps84, List.size_toArray, List.length_cons, List.length_nil, Nat.reduceAdd, Nat.reduceSub, Array.replicate_succ, Array.replicate_zero, List.push_toArray, List.append_toArray, List.nil_append, List.cons_append]
  gi_wp2
  gi_loopw [3] (fun i wr => ∃ k : Nat, i = .int .i64 (placeAt L k : Nat) ∧ Hid (Good L k) ∧ Hid (J (placesL L k) wr) ∧ Boxed wr Bs 9 (.string s)) (fun i _ => s.size + 3 - (intOf i).toNat)
  case atStart => exact ⟨0, rfl, Lib.hid (Good.zero L), Lib.hid h0, hc⟩
  case round =>
    obtain ⟨k, rfl, HG, HJ, hbx⟩ := hrel
    have hcx := hbx.cell
    by_cases hlt : placeAt L k < s.size
    · have hk4 := HG.out.le
      have HY := Lib.hid (fun X hX => hY (placesL L k) (placeAt L k) X hX (by rw [placesL_length]; omega))
      have HF1 := Lib.hid (HF.out _ hlt)
      have HS := Lib.hid (fun h : errL (L.drop (placeAt L k)) = 0 => Good.succ HG.out (by rw [← HL.out]; exact hlt) h)
      have HS2 := Lib.hid (show placesL L (k + 1) = placesL L k ++ [placeAt L k] from placesL_succ L k)
      have HS3 := Lib.hid (show placeAt L (k + 1) = placeAt L k + sizeL (L.drop (placeAt L k)) from rfl)
      have HS4 := Lib.hid (show errL (L.drop (placeAt L k)) = 0 → (firstI (L.drop (placeAt L k))).2.size ≤ 1400 ∧ sizeV (firstI (L.drop (placeAt L k))).2.size = sizeL (L.drop (placeAt L k)) ∧ 4 ≤ sizeL (L.drop (placeAt L k)) from fun h => by
        rw [firstI_ok h]
        exact ⟨item_small h, sizeV_item h, sizeL_pos h⟩)
      have HEN := Lib.hid (fun h : errL (L.drop (placeAt L k)) ≠ 0 => (⟨k, HG.out, .inr ⟨rfl, by rw [← HL.out]; exact hlt, h⟩⟩ : Ends L (placesL L (k + 1))))
      have HBE := Lib.hid (⟨k, HG.out, rfl, by rw [← HL.out]; exact hlt⟩ : Begins L (placesL L (k + 1)))
      unfold handed at HY
      try dsimp only at HY
      generalize placeAt L k = p at *
      generalize hfi : firstI (L.drop p) = fi at *
      obtain ⟨a, t⟩ := fi
      dsimp only at HY HF1 HS4
      generalize errL (L.drop p) = er at *
      generalize sizeL (L.drop p) = sz at *
      have q0 : (0 : Int) ≤ (p : Int) := by omega
      have q1 : (p : Int) ≤ (s.size : Int) := by omega
      have q2 : p ≤ s.size := by omega
      clear hfi hk4 hc0 hc h0
      gi_wp2_with (refine ⟨trivial, ?_⟩; gi_at_call 85; refine (callsIn_wide.2 (HF1.out _)).mono ?_; rintro e w1 ⟨rfl, hb1⟩; obtain ⟨fn, tmps, assign, body, hy, hR⟩ := HY.out (w1.alloc (.cells #[.int .i64 a, .string t] 50)) (abides_below hJ (abides_below hJ HJ.out hb1) ((Below.refl _ _).alloc (Nat.le_refl _) _)))
      have hbx2 : Boxed (w1.alloc (.cells #[.int .i64 a, .string t] 50)) Bs 9 (.string s) := (Below.heap_alloc w1 _ Bs (Nat.lt_of_lt_of_le hbx.lt hb1.size)).trans ((hb1.block Bs hbx.lt).trans hbx)
      have HBX := Lib.hid hbx2
      clear hbx2 hb1 hy hbx hcx
      refine hR.mono ?_
      rintro e W3 (⟨rfl, hJ3, hk3⟩ | ⟨rfl, hJx3⟩)
      · have hi4 : ItAt W3 w1.heap.size 50 a t := (hk3.2 _ _ _ (World.alloc_heap_new w1 _)).trans (World.alloc_heap_new w1 _)
        have c0 := hi4.c0
        have c1 := hi4.c1
        have HB3 := Lib.hid (show Boxed W3 Bs 9 (.string s) from hk3.1.trans HBX.out)
        have HJ3 := Lib.hid hJ3
        clear hi4 hk3 hJ3 hR
        by_cases her : er = 0
        · subst her
          obtain ⟨h1, h2, h3⟩ := HS4.out rfl
          have hsz := fun X => size_any a t (by omega) X
          rw [h2] at hsz
          have HSZ := Lib.hid hsz
          have HS5 := Lib.hid (HS.out rfl)
          have hszl : sz ≤ 1407 := by have := sizeV_le t.size; omega
          clear hsz h2 HS HEN HBE HS4 HY HF1
          gi_wp2_with (refine ⟨trivial, ?_⟩; gi_at_call 66; refine (callsIn_wide.2 (HSZ.out _)).mono ?_; rintro e w4 ⟨rfl, hb4⟩)
          go_roundw
          case rel => exact ⟨k + 1, by rw [HS3.out]; go_num, HS5, Lib.hid (by rw [HS2.out]; exact abides_below hJ HJ3.out hb4), (hb4.block Bs (Boxed.lt HB3.out)).trans HB3.out⟩
          case measure => simp [intOf]; omega
        · have HE5 := Lib.hid (HEN.out her)
          have hne : ((er : Int) != 0) = true := by simp; omega
          clear HS HEN HBE HS4 HY HF1 her
          gi_wp2
          refine bodyPost_ret (results_none rfl _ _ _) rfl ?_
          exact ⟨⟨_, rfl⟩, .inl ⟨_, HE5.out, by rw [HS2.out]; exact HJ3.out⟩⟩
      · clear HS HEN HS4 HY HF1 hR
        gi_wp2
        refine bodyPost_ret (results_none rfl _ _ _) rfl ?_
        exact ⟨⟨_, rfl⟩, .inr ⟨_, HBE.out, by rw [HS2.out]; exact hJx3⟩⟩
    · have HE5 := Lib.hid (⟨k, HG.out, .inl ⟨rfl, by rw [← HL.out]; omega⟩⟩ : Ends L (placesL L k))
      generalize placeAt L k = p at *
      have q1 : ¬ (p : Int) < (s.size : Int) := by omega
      gi_wp2
      go_end0
      exact ⟨⟨_, rfl⟩, .inl ⟨_, HE5.out, HJ.out⟩⟩
end Go.Proofs.Ytjdnlolhcjalmaa
