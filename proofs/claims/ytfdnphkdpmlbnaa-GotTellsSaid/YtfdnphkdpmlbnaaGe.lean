/-
  Gots copied; where a number belongs; going on: contracts.
-/
import Derived.Test.YtfdnphkdpmlbnaaGd
import Derived.Test.YtfdnphkdpmlbnaaGc
namespace Go.Proofs.Ytfdnphkdpmlbnaa
open Go.RowKit
set_option linter.unusedVariables false
set_option linter.unusedSimpArgs false
set_option maxRecDepth 100000

theorem own_later {w w' : World} {B size n : Nat} {T : TypeId} {v : Value} {xs : List Value} (h : w.ownsRow B T size v n xs) (hb : Below w.heap.size w w') : w'.ownsRow B T size v n xs := by
  refine ⟨h.1, ?_⟩
  rcases h.2 with h0 | ⟨g, cap, cur, rfl, hB, hh, r⟩
  · exact .inl h0
  · exact .inr ⟨g, cap, cur, rfl, hB, (hb.block g (Array.getElem?_eq_some_iff.1 hh).1).trans hh, r⟩
/-- What lies in the slice lies in blocks from B on. -/
def FreshE (B : Nat) (v : Value) : Prop := ∀ a n c, v = .slice (some a) n c → 0 < n → B ≤ a.block
theorem FreshE.less {B B' : Nat} {v : Value} (h : FreshE B v) (hb : B' ≤ B) : FreshE B' v := fun a n c e hn => Nat.le_trans hb (h a n c e hn)
theorem freshE_own {w : World} {base size n : Nat} {e : TypeId} {v : Value} {xs : List Value} (h : w.ownsRow base e size v n xs) : FreshE base v := by
  obtain ⟨A, cap, rfl, _, _, hb⟩ := own_slice h
  intro a n' c e hn
  cases e
  exact hb a rfl
theorem freshE_ownG {w : World} {base size n : Nat} {e : TypeId} {v : Value} {xs : List Value} (h : OwnG w base e size v n xs) : FreshE base v := by
  obtain ⟨A, cap, rfl, _, _, hb⟩ := h.slice
  intro a n' c e hn
  cases e
  obtain ⟨g, hg, hB, _⟩ := hb hn
  cases hg
  exact hB
theorem freshE_nil (B : Nat) : FreshE B (.slice none 0 0) := fun a n c e => by cases e
theorem RowE.stays {w w' : World} {v : Value} {l : List UInt32} {B k : Nat} (h : RowE enc32 w v l) (hf : FreshE B v) (hg : w.grownBy w' (some k)) (hk : k < B) : RowE enc32 w' v l := by
  obtain ⟨A, cap, rfl, h1, h2, h3⟩ := h
  refine ⟨A, cap, rfl, h1, h2, fun hl => ?_⟩
  obtain ⟨b, off, rfl, hb, hc⟩ := h3 hl
  have hB := hf _ _ _ rfl hl
  refine ⟨b, off, rfl, Nat.lt_of_lt_of_le hb hg.size, fun j hj => ?_⟩
  rw [← hc j hj]
  exact World.cell?_of_block (hg.block b hb (by intro e; cases e; exact absurd hB (by show ¬ B ≤ k; omega)))
set_option maxHeartbeats 1000000 in
theorem copied_any (c : UInt32) (ab du : List UInt32) (ha : ab.length ≤ 1000000) (hd : du.length ≤ 1000000) (va vd : Value) (w : World) (h1 : RowE enc32 w va ab) (h2 : RowE enc32 w vd du) : Calls Try.prog 31 #[.agg #[.int .u32 (c.toNat : Int), va, vd]] w fun e w' => ∃ va' vd', e = .returned (.agg #[.int .u32 (c.toNat : Int), va', vd']) ∧ RowE enc32 w' va' ab ∧ RowE enc32 w' vd' du ∧ FreshE w.heap.size va' ∧ FreshE w.heap.size vd' ∧ Below w.heap.size w w' := by
  obtain ⟨W, hW, HA, HZ, HB, hs⟩ := two_open w 25 25 #[.int .u32 (c.toNat : Int), va, vd] #[.int .u32 0, .slice none 0 0, .slice none 0 0]
  have HV := Lib.hid (h1.below HB.out)
  have HD := Lib.hid (h2.below HB.out)
  have HCA := Lib.hid (fun W h => clone_any ab ha va W h)
  have HCD := Lib.hid (fun W h => clone_any du hd vd W h)
  obtain ⟨A, k, rfl, -, -, -⟩ := id HV.out
  obtain ⟨A', k', rfl, -, -, -⟩ := id HD.out
  go_enter Try.func31, Try.ntmps31
  go_wp2_with fail
  refine wp_region_noPanic ?_
  have HS : (fun V => Bx V w.heap.size 25 #[.int .u32 (c.toNat : Int), .slice A ab.length k, .slice A' du.length k'] ∧ Bx V (w.heap.size + 1) 25 #[.int .u32 0, .slice none 0 0, .slice none 0 0] ∧ Below w.heap.size w V ∧ RowE enc32 V (.slice A ab.length k) ab ∧ RowE enc32 V (.slice A' du.length k') du ∧ w.heap.size + 2 ≤ V.heap.size) W.drew := ⟨HA.out.drew, HZ.out.drew, below_drawn HB.out, HV.out, HD.out, by show w.heap.size + 2 ≤ W.heap.size; omega⟩
  refine wp_region_waits (S := (fun V => Bx V w.heap.size 25 #[.int .u32 (c.toNat : Int), .slice A ab.length k, .slice A' du.length k'] ∧ Bx V (w.heap.size + 1) 25 #[.int .u32 0, .slice none 0 0, .slice none 0 0] ∧ Below w.heap.size w V ∧ RowE enc32 V (.slice A ab.length k) ab ∧ RowE enc32 V (.slice A' du.length k') du ∧ w.heap.size + 2 ≤ V.heap.size)) [9] (by kernel_rfl) HS (fun hHeld => ?_)
  clear HS HA HZ HB HV HD
  refine wpAnyW_take (i := 0) (v := ?_) (by simp only [List.getElem?_toArray, List.getElem?_cons_zero]; rfl) (by kernel_rfl) (by kernel_rfl) (by kernel_rfl) (by kernel_rfl) (by kernel_rfl) (fun _ _ _ h => h) (Or.inl ⟨by rfl, ?_⟩) (by assumption) ?_
  rotate_left 1
  · (intro w' hSw; go_simp; try with_reducible rfl)
  try simp only [Act.put, List.setIfInBounds_toArray, List.set_cons_zero, List.set_cons_succ]
  refine wpAnyW_take (i := 1) (v := ?_) (by simp only [List.getElem?_toArray, List.getElem?_cons_succ, List.getElem?_cons_zero]; rfl) (by kernel_rfl) (by kernel_rfl) (by kernel_rfl) (by kernel_rfl) (by kernel_rfl) (fun _ _ _ h => h) (Or.inl ⟨by rfl, ?_⟩) (by assumption) ?_
  rotate_left 1
  · (intro w' hSw; have hq : w'.cell? ⟨w.heap.size, 0, none⟩ = some (.int .u32 (c.toNat : Int)) := hSw.1.cell 0 _ rfl; go_simp; try with_reducible rfl)
  try simp only [Act.put, List.setIfInBounds_toArray, List.set_cons_zero, List.set_cons_succ]
  refine wpAnyW_take (i := 2) (v := ?_) (by simp only [List.getElem?_toArray, List.getElem?_cons_succ, List.getElem?_cons_zero]; rfl) (by kernel_rfl) (by kernel_rfl) (by kernel_rfl) (by kernel_rfl) (by kernel_rfl) (fun _ _ _ h => h) (Or.inl ⟨by rfl, ?_⟩) (by assumption) ?_
  rotate_left 1
  · (intro w' hSw; go_simp; try with_reducible rfl)
  try simp only [Act.put, List.setIfInBounds_toArray, List.set_cons_zero, List.set_cons_succ]
  refine wpAnyW_take (i := 3) (v := ?_) (by simp only [List.getElem?_toArray, List.getElem?_cons_succ, List.getElem?_cons_zero]; rfl) (by kernel_rfl) (by kernel_rfl) (by kernel_rfl) (by kernel_rfl) (by kernel_rfl) (fun _ _ _ h => h) (Or.inl ⟨by rfl, ?_⟩) (by assumption) ?_
  rotate_left 1
  · (intro w' hSw; have hq : w'.cell? ⟨w.heap.size, 1, none⟩ = some (.slice A ab.length k) := hSw.1.cell 1 _ rfl; go_simp; try with_reducible rfl)
  try simp only [Act.put, List.setIfInBounds_toArray, List.set_cons_zero, List.set_cons_succ]
  refine wpAnyW_take (i := 5) (v := ?_) (by simp only [List.getElem?_toArray, List.getElem?_cons_succ, List.getElem?_cons_zero]; rfl) (by kernel_rfl) (by kernel_rfl) (by kernel_rfl) (by kernel_rfl) (by kernel_rfl) (fun _ _ _ h => h) (Or.inl ⟨by rfl, ?_⟩) (by assumption) ?_
  rotate_left 1
  · (intro w' hSw; go_simp; try with_reducible rfl)
  try simp only [Act.put, List.setIfInBounds_toArray, List.set_cons_zero, List.set_cons_succ]
  refine wpAnyW_take (i := 6) (v := ?_) (by simp only [List.getElem?_toArray, List.getElem?_cons_succ, List.getElem?_cons_zero]; rfl) (by kernel_rfl) (by kernel_rfl) (by kernel_rfl) (by kernel_rfl) (by kernel_rfl) (fun _ _ _ h => h) (Or.inl ⟨by rfl, ?_⟩) (by assumption) ?_
  rotate_left 1
  · (intro w' hSw; have hq : w'.cell? ⟨w.heap.size, 2, none⟩ = some (.slice A' du.length k') := hSw.1.cell 2 _ rfl; go_simp; try with_reducible rfl)
  try simp only [Act.put, List.setIfInBounds_toArray, List.set_cons_zero, List.set_cons_succ]
  refine wpAnyW_held (i := 4) (by kernel_rfl) (by simp only [List.getElem?_toArray, List.getElem?_cons_succ, List.getElem?_cons_zero]; rfl) (fun K hK => ?_)
  rw [if_pos (by rfl)]
  go_simp
  refine (HCA.out _ hHeld.2.2.2.1).mono ?_
  rintro _ w5 ⟨v5, rfl, ho5, hb5⟩
  have HO5 := Lib.hid (own_base ho5 hHeld.2.2.2.2.2)
  have HS := And.intro (hHeld.1.later hb5) (And.intro (hHeld.2.1.later hb5) (And.intro (hHeld.2.2.1.trans (hb5.mono hHeld.2.2.1.size)) (And.intro (hHeld.2.2.2.1.below hb5) (And.intro (hHeld.2.2.2.2.1.below hb5) (Nat.le_trans hHeld.2.2.2.2.2 hb5.size)))))
  obtain ⟨A5, c5, rfl, -, -⟩ := own_formE ho5
  clear hHeld ho5 hb5
  go_wp2_with fail
  refine hK.out _ _ HS (fun hHeld => ?_)
  clear hK K HS
  try simp only [Act.put, List.setIfInBounds_toArray, List.set_cons_zero, List.set_cons_succ]
  refine wpAnyW_held (i := 7) (by kernel_rfl) (by simp only [List.getElem?_toArray, List.getElem?_cons_succ, List.getElem?_cons_zero]; rfl) (fun K hK => ?_)
  rw [if_pos (by rfl)]
  go_simp
  refine (HCD.out _ hHeld.2.2.2.2.1).mono ?_
  rintro _ w6 ⟨v6, rfl, ho6, hb6⟩
  replace HO5 := Lib.hid (own_later HO5.out hb6)
  have HO6 := Lib.hid (own_base ho6 hHeld.2.2.2.2.2)
  have HS := And.intro (hHeld.1.later hb6) (And.intro (hHeld.2.1.later hb6) (And.intro (hHeld.2.2.1.trans (hb6.mono hHeld.2.2.1.size)) (And.intro (hHeld.2.2.2.1.below hb6) (And.intro (hHeld.2.2.2.2.1.below hb6) (Nat.le_trans hHeld.2.2.2.2.2 hb6.size)))))
  obtain ⟨A6, c6, rfl, -, -⟩ := own_formE ho6
  clear hHeld ho6 hb6
  go_wp2_with fail
  refine hK.out _ _ HS (fun hHeld => ?_)
  clear hK K HS
  try simp only [Act.put, List.setIfInBounds_toArray, List.set_cons_zero, List.set_cons_succ]
  refine wpAnyW_take (i := 8) (v := ?_) (by simp only [List.getElem?_toArray, List.getElem?_cons_succ, List.getElem?_cons_zero]; rfl) (by kernel_rfl) (by kernel_rfl) (by kernel_rfl) (by kernel_rfl) (by kernel_rfl) (fun _ _ _ h => h) (Or.inl ⟨by rfl, ?_⟩) (by assumption) ?_
  rotate_left 1
  · (intro w' hSw; go_simp; try with_reducible rfl)
  try simp only [Act.put, List.setIfInBounds_toArray, List.set_cons_zero, List.set_cons_succ]
  refine wpAnyW_freed (i := 9) (by kernel_rfl) (by kernel_rfl) (by simp only [List.getElem?_toArray, List.getElem?_cons_succ, List.getElem?_cons_zero]; rfl) (fun K hK => ?_)
  rw [if_pos (by rfl)]
  refine wpB (ty := 25) #[.int .u32 (c.toNat : Int), .slice A5 ab.length c5, .slice A6 du.length c6] rfl rfl rfl hHeld.2.1 infoG rfl (cellsG_one _ _ _ _ _ _ _) ?_
  intro w7 ht hg
  have HZ := Lib.hid ht
  have HB := Lib.hid (below_of_grown1 hHeld.2.2.1 hg hHeld.2.2.1.size (by omega))
  have HF5 := Lib.hid (freshE_own HO5.out)
  have HF6 := Lib.hid (freshE_own HO6.out)
  have HR5 := Lib.hid ((row_of_own HO5.out).stays HF5.out hg (by omega))
  have HR6 := Lib.hid ((row_of_own HO6.out).stays HF6.out hg (by omega))
  clear ht hg hHeld HO5 HO6
  refine hK.out _ _ ?_
  clear hK K
  try simp only [Act.put, List.setIfInBounds_toArray, List.set_cons_zero, List.set_cons_succ]
  refine wpAnyW_done (by kernel_rfl) ?_ _
  refine NoPanic.normal ?_
  go_wp2_with fail
  exact bodyPost_ret (retG rfl rfl rfl HZ.out) rfl ⟨_, _, rfl, HR5.out, HR6.out, HF5.out.less (by omega), HF6.out.less (by omega), HB.out⟩
theorem dist_is (a b : UInt32) : dist32 (a.toNat : Int) (b.toNat : Int) = if (b - a).toNat < 2147483648 then ((b - a).toNat : Int) else ((b - a).toNat : Int) - 4294967296 := by
  unfold dist32
  rw [UInt32.toNat_sub]
  have := a.toNat_lt; have := b.toNat_lt
  split <;> omega
theorem placed_any (x n : UInt32) (w : World) : Calls Try.prog 42 #[.int .u32 (x.toNat : Int), .int .u32 (n.toNat : Int)] w fun e w' => e = .returned (.int .i64 (dist32 (n.toNat : Int) (x.toNat : Int))) ∧ w' = w := by
  have h1 := x.toNat_lt
  have h2 := n.toNat_lt
  have HD := Lib.hid (dist_any (n.toNat : Int) (x.toNat : Int) (by omega) (by omega) (by omega) (by omega) w)
  generalize dist32 (n.toNat : Int) (x.toNat : Int) = r at *
  go_enter Try.func42, Try.ntmps42
  go_wp2_with (go_at_call 43; (with_reducible refine HD.out.mono ?_); rintro e w5 ⟨rfl, rfl⟩)
  go_ret
  exact ⟨rfl, rfl⟩
/-- By how far they are above c: near ones stand as their distances do. -/
theorem dist_near {c x n : UInt32} (hx : key c x ≤ 4000) (hn : key c n ≤ 4000) : dist32 (n.toNat : Int) (x.toNat : Int) = (key c x : Int) - (key c n : Int) := by
  rw [dist_is]
  by_cases h : key c n ≤ key c x
  · have e : (x - n).toNat = key c x - key c n := key_shift h
    rw [e, if_pos (by omega)]
    omega
  · have e : (x - n).toNat = 4294967296 - (key c n - key c x) := key_below (by omega)
    rw [e, if_neg (by omega)]
    omega
end Go.Proofs.Ytfdnphkdpmlbnaa
