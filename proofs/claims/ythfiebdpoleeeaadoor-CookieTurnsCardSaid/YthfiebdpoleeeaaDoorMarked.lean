/-
  Package hmac: a key's block, each byte marked; the block of a key.
-/
import Derived.Test.YthfiebdpoleeeaaDoorIter
import Derived.Test.YthfiebdpoleeeaaDoorKey
import Derived.Test.YthfiebdpoleeeaaDoorBytes
import Derived.Test.YthfiebdpoleeeaaDoorSpec
import Derived.Test.YthfiebdpoleeeaaDoorShelf
namespace Go.Proofs.YthfiebdpoleeeaaDoor
open Go.RowKit Go.Shelf
set_option linter.unusedVariables false

attribute [local go_sem] Oper.semAt_some

def markedAt (s : ByteArray) (x : UInt8) (i : Fin s.size) : UInt8 := s[i.val]'i.isLt ^^^ x
def markedList (s : ByteArray) (x : UInt8) : List UInt8 := (List.finRange s.size).map (markedAt s x)
theorem markedList_is (s : ByteArray) (x : UInt8) : markedList s x = s.data.toList.map (· ^^^ x) := by
  apply List.ext_getElem
  · simp [markedList]
  · intro i h1 h2
    simp [markedList, markedAt]
    rfl
theorem map_snoc8 (s : ByteArray) (x : UInt8) (pre : List (Fin s.size)) (i : Fin s.size) : (pre ++ [i]).map (fun i => enc8 (markedAt s x i)) = pre.map (fun i => enc8 (markedAt s x i)) ++ [enc8 (markedAt s x i)] := by simp

set_option maxRecDepth 100000 in
set_option maxHeartbeats 2000000 in
theorem marked_in (s : ByteArray) (hs : s.size ≤ 1000) (x : UInt8) (z : Int) (hz : z = (x.toNat : Int)) (w : World) :
    CallsIn Fence.wide 9 Tryd.prog 47 #[.string s, .int .u8 z] w fun e w' => e = .returned (.string ⟨(markedList s x).toArray⟩) ∧ Below w.heap.size w w' := by
  subst hz
  obtain ⟨i0, hi, hz0, hz1, hz2⟩ := info_parts info8
  refine callsIn_of_wp_marks Tryd.func47 rfl trivial ?_ rfl
  simp only [Tryd.ntmps47, List.size_toArray, List.length_cons, List.length_nil, Nat.reduceAdd, Nat.reduceSub, Array.replicate_succ, Array.replicate_zero, List.push_toArray, List.append_toArray, List.nil_append, List.cons_append]
  have bM := Boxed.new w 5 (.int .u8 (x.toNat : Int))
  have hw0 := World.size_alloc w (.cells #[.int .u8 (x.toNat : Int)] 5)
  gi_wp2_with (first
    | (gi_at_make; refine wpListIn_make_own _ rfl _ _ 78 rfl (w.heap.size + 1) 5 i0 (.int .u8 0) 1 Tryd.underlying78 hi hz0 hz1 .i64 .i64 64 64 rfl rfl rfl (by rw [hz2]; omega) (by unfold maxLen; omega) (by simp) ?_; intro w1 hown1 hgrow1)
    | (refine ⟨trivial, ?_⟩; gi_at_call 62; refine (iter_made 8 s _).mono ?_; rintro e w' ⟨rfl, rfl⟩))
  rw [hw0] at hown1
  have hs1 := hgrow1.size
  simp at hs1
  have bM1 := bM.kept hgrow1 (by simp)
  have bO := Boxed.new w1 78 (.slice (some ⟨w.heap.size + 1, 0, none⟩) 0 64)
  have bA := Boxed.new (w1.alloc (.cells #[.slice (some ⟨w.heap.size + 1, 0, none⟩) 0 64] 78)) 9 (.string s)
  rw [World.size_alloc] at bA
  have hB1 : Below w.heap.size w w1 := ((Below.refl _ w).alloc (Nat.le_refl _) _).grown hgrow1 (by simp) (fun k e => by cases e)
  have hB0 : Below w.heap.size w ((w1.alloc (.cells #[.slice (some ⟨w.heap.size + 1, 0, none⟩) 0 64] 78)).alloc (.cells #[.string s] 9)) := (hB1.alloc (by omega) _).alloc (by simp; omega) _
  have hrow0 := (hown1.alloc (.cells #[.slice (some ⟨w.heap.size + 1, 0, none⟩) 0 64] 78)).alloc (.cells #[.string s] 9)
  refine wpIn_rangeFunc_ownG rfl (by omega) (gf := 76) (lb := #[.pointer (some ⟨w1.heap.size + 1, 0, none⟩)]) rfl trivial (enters_of Tryd.func76 (by kernel_rfl) rfl)
    (iter_stops 8 (by omega) (w1.heap.size + 1) s (by unfold maxLen; omega) _ bA) lies_t (lies_b (by simp)) (Below.refl _ _) (fun _ => rfl)
    (fun pre W => ((Boxed W w.heap.size 5 (.int .u8 (x.toNat : Int)) ∧ Boxed W (w1.heap.size + 1) 9 (.string s)) ∧ ∃ v, Boxed W w1.heap.size 78 v ∧ W.ownsRow (w.heap.size + 1) 5 1 v pre.length (pre.map fun i => enc8 (markedAt s x i)) ∧ True) ∧ Below w.heap.size w W)
    (fun _ _ _ => False)
    (OwnFrom.and (OwnFrom.and (OwnFrom.and (Own.from (boxed_own _ _ _) _) (Own.from (boxed_own _ _ _) _)) (Own.from (holdsRow_own _ _ _ _ _ (fun (pre : List (Fin s.size)) => pre.length) (fun pre => pre.map fun i => enc8 (markedAt s x i)) (fun _ _ => True)) _)) (ownFrom_below (Nat.le_refl _) (by simp; omega)))
    (fun _ _ _ _ _ hs _ _ => hs)
    ⟨⟨⟨(bM1.alloc _).alloc _, bA⟩, _, bO.alloc _, hrow0, trivial⟩, hB0⟩
    ?a1 ?assign ?body ?done ?stop
  case assign =>
    intro l i W K hK
    unfold handed
    gi_wp2
    exact hK
  case body =>
    rintro l pre i W ⟨⟨⟨hm, hbx⟩, v, hv, hrow, -⟩, hB⟩ hlen
    have hx1 := u8_xor_nat (s[i.val]'i.isLt).toNat x.toNat (s[i.val]'i.isLt).toNat_lt x.toNat_lt
    rw [← UInt8.toNat_xor, show s[i.val]'i.isLt ^^^ x = markedAt s x i from rfl] at hx1
    have cm := hm.cell
    have cv := hv.cell
    have hsz := hB.size
    have hWs := hv.lt
    have hms := hm.lt
    gi_wp2_with (gi_at_builtin; refine wpListIn_append_own _ rfl _ _ 78 rfl (w.heap.size + 1) 5 i0 (.int .u8 0) 1 1 Tryd.underlying78 hi hz0 hz1 hz2 rfl (by decide) _ _ _ rfl (hrow.alloc _) ⟨W.heap.size, 0, none⟩ 1 1 [enc8 (markedAt s x i)] rfl rfl (cell_one_new _ _ _) (by simp [enc8, Value.oneCell']) (by unfold maxLen; omega) (by omega) (by simp; omega) ?_; intro v' w2 hown' hgrow _; obtain ⟨g', cap', rfl⟩ := ownsRow_succ hown'; obtain ⟨hv1, hv2, hr2, hk2, hb2⟩ := hv.appended (by decide) hrow (by omega) (by omega) hown' hgrow; have hc1 := hv1.cell; have hf1 := hv1.frozen)
    have hbx1 := (hbx.alloc _).kept hgrow (hbx.not_row (by decide) hrow)
    have hbx2 := hbx1.other (show w1.heap.size + 1 ≠ w1.heap.size by omega) (.slice (some ⟨g', 0, none⟩) (pre.length + 1) cap')
    have hm2 := (hb2.block w.heap.size (by omega)).trans hm
    refine ⟨hk2.from _, boxed_lies hbx hbx2, ⟨⟨⟨hm2, hbx2⟩, _, hv2, ?_, trivial⟩, hB.trans (hb2.mono (by omega))⟩⟩
    rw [map_snoc8, List.length_append]
    exact hr2
  case done =>
    rintro D ys W hD rfl ⟨⟨⟨hm, hbx⟩, v, hv, hrow, -⟩, hB⟩ hK
    have cv := hv.cell
    have ht : (convert 78 9 v).run Tryd.prog W = .ok (.string ⟨(markedList s x).toArray⟩) W := text_own (l := markedList s x) (n := (List.finRange s.size).length) (by
      have e : (markedList s x).map enc8 = (List.finRange s.size).map fun i => enc8 (markedAt s x i) := by simp [markedList]
      rw [e]
      exact hrow)
    gi_wp2
    refine ⟨by simp, .inl ⟨_, _, rfl, run_takeDeferred hK, ?_⟩⟩
    exact ⟨_, results_tmp rfl _ _ _, rfl, hB.trans (belowK_b (w := w) (Nat.le_refl _) W D _ _ (by simp at hD; omega) hK rfl rfl)⟩
  case stop =>
    rintro D c pre W _ _ h _
    exact h.elim
end Go.Proofs.YthfiebdpoleeeaaDoor
