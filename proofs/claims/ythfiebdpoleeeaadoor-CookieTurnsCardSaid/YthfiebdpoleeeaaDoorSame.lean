/-
  Package hmac: Same: whether two texts are the same.
-/
import Derived.Test.YthfiebdpoleeeaaDoorIter
import Derived.Test.YthfiebdpoleeeaaDoorKey
namespace Go.Proofs.YthfiebdpoleeeaaDoor
open Go.RowKit Go.Shelf
set_option linter.unusedVariables false

attribute [local go_sem] Oper.semAt_some

def orAll {α : Type} (f : α → UInt8) (pre : List α) : UInt8 := pre.foldl (fun u i => u ||| f i) 0
theorem orAll_snoc {α : Type} (f : α → UInt8) (pre : List α) (x : α) : orAll f (pre ++ [x]) = orAll f pre ||| f x := by simp [orAll]
theorem or8_zero (u v : UInt8) : u ||| v = 0 ↔ u = 0 ∧ v = 0 := by
  constructor
  · intro h
    have h2 : (u ||| v).toNat = 0 := by rw [h]; rfl
    rw [UInt8.toNat_or, Nat.or_eq_zero_iff] at h2
    exact ⟨UInt8.toNat_inj.1 h2.1, UInt8.toNat_inj.1 h2.2⟩
  · rintro ⟨rfl, rfl⟩
    rfl
theorem orAll_zero {α : Type} (f : α → UInt8) (pre : List α) : orAll f pre = 0 ↔ ∀ i, i ∈ pre → f i = 0 := by
  suffices h : ∀ (l : List α) (u : UInt8), l.foldl (fun u i => u ||| f i) u = 0 ↔ u = 0 ∧ ∀ i, i ∈ l → f i = 0 by
    rw [orAll, h]
    simp
  intro l
  induction l with
  | nil => intro u; simp
  | cons x l ih =>
    intro u
    rw [List.foldl_cons, ih, or8_zero]
    simp [and_assoc]
theorem xor8_zero (u v : UInt8) : u ^^^ v = 0 ↔ u = v := UInt8.xor_eq_zero_iff
/-- Where two texts of one length are unlike. -/
def unlike (a b : ByteArray) (i : Fin a.size) : UInt8 := a[i.val]'i.isLt ^^^ b.data.toList.getD i.val 0
theorem unlike_at {a b : ByteArray} (i : Fin a.size) (h : i.val < b.size) : unlike a b i = a[i.val]'i.isLt ^^^ b[i.val] := by
  unfold unlike
  rw [show b.data.toList.getD i.val 0 = b[i.val] from keyAt_in b i.val h]
theorem unlike_none {a b : ByteArray} (h : a.size = b.size) : orAll (unlike a b) (List.finRange a.size) = 0 ↔ a = b := by
  rw [orAll_zero]
  constructor
  · intro hz
    apply ByteArray.ext
    apply Array.ext
    · exact h
    · intro i h1 h2
      have := hz ⟨i, h1⟩ (List.mem_finRange _)
      rw [unlike_at ⟨i, h1⟩ h2, xor8_zero] at this
      exact this
  · rintro rfl i _
    rw [unlike_at i i.isLt, xor8_zero]

set_option maxRecDepth 100000 in
set_option maxHeartbeats 2000000 in
theorem same_long (a b : ByteArray) (ha : a.size ≤ 900000) (hab : a.size = b.size) (w : World) :
    CallsIn Fence.wide 9 Tryd.prog 49 #[.string a, .string b] w fun e w' => e = .returned (.bool (sameB a b)) ∧ Below w.heap.size w w' := by
  refine callsIn_of_wp_marks Tryd.func49 rfl trivial ?_ rfl
  simp only [Tryd.ntmps49, List.size_toArray, List.length_cons, List.length_nil, Nat.reduceAdd, Nat.reduceSub, Array.replicate_succ, Array.replicate_zero, List.push_toArray, List.append_toArray, List.nil_append, List.cons_append]
  gi_wp2_with (refine ⟨trivial, ?_⟩; gi_at_call 62; refine (iter_made 8 a _).mono ?_; rintro e w' ⟨rfl, rfl⟩)
  have bB := Boxed.new w 9 (.string b)
  have bU := Boxed.new (w.alloc (.cells #[.string b] 9)) 5 (.int .u8 0)
  have bA := Boxed.new ((w.alloc (.cells #[.string b] 9)).alloc (.cells #[.int .u8 0] 5)) 9 (.string a)
  simp only [World.size_alloc] at bU bA
  have hB0 : Below w.heap.size w (((w.alloc (.cells #[.string b] 9)).alloc (.cells #[.int .u8 0] 5)).alloc (.cells #[.string a] 9)) := (((Below.refl _ w).alloc (Nat.le_refl _) _).alloc (by simp) _).alloc (by simp; omega) _
  refine wpIn_rangeFunc_ownG rfl (by omega) (gf := 76) (lb := #[.pointer (some ⟨w.heap.size + 1 + 1, 0, none⟩)]) rfl trivial (enters_of Tryd.func76 (by kernel_rfl) rfl)
    (iter_stops 8 (by omega) (w.heap.size + 1 + 1) a (by unfold maxLen; omega) _ bA) lies_t (lies_b (by simp)) (Below.refl _ _) (fun _ => rfl)
    (fun pre W => ((Boxed W w.heap.size 9 (.string b) ∧ Boxed W (w.heap.size + 1 + 1) 9 (.string a)) ∧ Boxed W (w.heap.size + 1) 5 (.int .u8 ((orAll (unlike a b) pre).toNat : Int))) ∧ Below w.heap.size w W)
    (fun _ _ _ => False)
    (OwnFrom.and (OwnFrom.and (OwnFrom.and (Own.from (boxed_own _ _ _) _) (Own.from (boxed_own _ _ _) _)) (Own.from (boxed_own _ _ _) _)) (ownFrom_below (Nat.le_refl _) (by simp; omega)))
    (fun _ _ _ _ _ hs _ _ => hs)
    ⟨⟨⟨(bB.alloc _).alloc _, bA⟩, bU.alloc _⟩, hB0⟩
    ?a1 ?assign ?body ?done ?stop
  case assign =>
    intro l x W K hK
    unfold handed
    gi_wp2
    exact hK
  case body =>
    rintro l pre x W ⟨⟨⟨hb, hbx⟩, hu⟩, hB⟩ _
    have hxb : x.val < b.size := by have := x.isLt; omega
    have hx1 := u8_xor_nat (a[x.val]'x.isLt).toNat (b[x.val]).toNat (a[x.val]'x.isLt).toNat_lt (b[x.val]).toNat_lt
    rw [← UInt8.toNat_xor, ← unlike_at x hxb] at hx1
    have hx2 := u8_or_nat (orAll (unlike a b) pre).toNat (unlike a b x).toNat (orAll (unlike a b) pre).toNat_lt (unlike a b x).toNat_lt
    rw [← UInt8.toNat_or, ← orAll_snoc] at hx2
    have cb := hb.cell
    have cu := hu.cell
    have fu := hu.frozen
    have hmx : Tryd.prog.follows .mixedOrders = true := by kernel_rfl
    gi_wp2
    gi_region_with_o fail
    all_goals gi_wp2
    all_goals (try go_bits)
    all_goals
      have e1 := fun u => boxed_drew (hb.other (show w.heap.size ≠ w.heap.size + 1 by omega) u)
      have e2 := fun u => boxed_drew (hbx.other (show w.heap.size + 1 + 1 ≠ w.heap.size + 1 by omega) u)
      exact ⟨((KeepsOthers.setCell _ _ _).trans (KeepsOthers.drew _)).from _, boxed_lies hbx (e2 _), ⟨⟨⟨e1 _, e2 _⟩, boxed_drew (hu.set _)⟩, (hB.setCell (p := ⟨w.heap.size + 1, 0, none⟩) (by show w.heap.size ≤ w.heap.size + 1; omega) _).drew⟩⟩
  case done =>
    rintro D ys W hD rfl ⟨⟨⟨hb, hbx⟩, hu⟩, hB⟩ hK
    have cu := hu.cell
    have hq : (((orAll (unlike a b) (List.finRange a.size)).toNat : Int) == 0) = sameB a b := by
      have hn := unlike_none hab
      by_cases h : a = b
      · rw [sameB_true h, hn.2 h]
        rfl
      · rw [sameB_false h]
        refine beq_eq_false_iff_ne.2 fun e => h (hn.1 (UInt8.toNat_inj.1 ?_))
        have e2 : (orAll (unlike a b) (List.finRange a.size)).toNat = 0 := by omega
        rw [e2]
        rfl
    gi_wp2
    refine ⟨by simp, .inl ⟨_, _, rfl, run_takeDeferred hK, ?_⟩⟩
    exact ⟨_, results_tmp rfl _ _ _, rfl, hB.trans (belowK_b (w := w) (Nat.le_refl _) W D _ _ (by simp at hD; omega) hK rfl rfl)⟩
  case stop =>
    rintro D c pre W _ _ h _
    exact h.elim
set_option maxRecDepth 100000 in
set_option maxHeartbeats 1000000 in
theorem same_short (a b : ByteArray) (hab : ¬ a.size = b.size) (w : World) :
    CallsIn Fence.wide 9 Tryd.prog 49 #[.string a, .string b] w fun e w' => e = .returned (.bool false) ∧ Below w.heap.size w w' := by
  refine callsIn_of_wp_marks Tryd.func49 rfl trivial ?_ rfl
  simp only [Tryd.ntmps49, List.size_toArray, List.length_cons, List.length_nil, Nat.reduceAdd, Nat.reduceSub, Array.replicate_succ, Array.replicate_zero, List.push_toArray, List.append_toArray, List.nil_append, List.cons_append]
  have hne : ((a.size : Int) == (b.size : Int)) = false := beq_eq_false_iff_ne.2 (by omega)
  gi_wp2
  exact ⟨_, results_tmp rfl _ _ _, rfl, (Below.refl _ w).alloc (Nat.le_refl _) _⟩
end Go.Proofs.YthfiebdpoleeeaaDoor
