/-
  The document's reader of reports: a contract. The document's reader of a chunk's value: types 1 and 2: a contract. The document's reader of a chunk's value: all types: a contract.
-/
import Derived.Test.YtlbaockipeojhaaGreatR9B
section
namespace Go.Proofs.YtlbaockipeojhaaGreat
open Go.RowKit
set_option linter.unusedVariables false
set_option linter.unusedSimpArgs false
set_option maxRecDepth 100000

section
variable {P : Program} {ops : Array Oper} {Q : Exit → Act → World → Prop} {md : Region.Mode} {S : World → Prop} {W : List Nat} {oi : Oper} {fuel : Nat} {listed : Array Bool} {a : Act} {w : World}
/-- Number i is taken first, as what waits for it has not come up. -/
theorem j9 (i : Nat) (v : Value) (hi : ops[i]? = some oi := by simp only [q9a, q9s, q9z]; rfl) (hs : Region.noSelect ops = true := by kernel_rfl) (hf : Region.free md ops listed i = true := by kernel_rfl) (hr : (Region.ready md ops listed).contains i = true := by kernel_rfl)
    (hw : waitB md ops W i = true := by kernel_rfl) (hwt : waitsB W listed = true := by kernel_rfl) (hQ : ∀ c a w, Q (.panic c) (a.put oi.dst v) w → Q (.panic c) a w := by exact fun _ _ _ h => h) (hg : Region.wanted oi (yielded ops a.tmps) = true := by rfl)
    (y : ∀ w, S w → (execOp a.eval oi).run P w = .ok (.value v) w) (hS : S w := by assumption) (h : wpAnyW P md ops Q S W fuel (listed.setIfInBounds i true) (a.put oi.dst v) w) : wpAnyW P md ops Q S W (fuel + 1) listed a w := wpAnyW_take hi hs hf hr hw hwt hQ (Or.inl ⟨hg, y⟩) hS h
/-- The same, by whatever it yields. -/
theorem j7 (i : Nat) (v : Value) (hi : ops[i]? = some oi := by simp only [q9a, q9s, q9z]; rfl) (hs : Region.noSelect ops = true := by kernel_rfl) (hf : Region.free md ops listed i = true := by kernel_rfl) (hr : (Region.ready md ops listed).contains i = true := by kernel_rfl)
    (hw : waitB md ops W i = true := by kernel_rfl) (hwt : waitsB W listed = true := by kernel_rfl) (hQ : ∀ c a w, Q (.panic c) (a.put oi.dst v) w → Q (.panic c) a w := by exact fun _ _ _ h => h)
    (y : YieldsIf P ops S oi v a) (hS : S w := by assumption) (h : wpAnyW P md ops Q S W fuel (listed.setIfInBounds i true) (a.put oi.dst v) w) : wpAnyW P md ops Q S W (fuel + 1) listed a w := wpAnyW_take hi hs hf hr hw hwt hQ y hS h
/-- Number i comes up. -/
theorem j3 (i : Nat) (hr : Region.ready md ops listed = [i] := by kernel_rfl) (ho : ops[i]? = some oi := by simp only [q9a, q9s, q9z]; rfl)
    (h : ∀ K' : Act → World → Prop, Shut (∀ a w, S w → (S w → wpAnyW P md ops Q S W fuel (listed.setIfInBounds i true) a w) → K' a w) → if Region.wanted oi (yielded ops a.tmps) = true then Oper.wp P oi a w K' Q else K' (a.put oi.dst undef) w) :
    wpAnyW P md ops Q S W (fuel + 1) listed a w := wpAnyW_held hr ho h
/-- Number i comes up, one that waited, or behind one. -/
theorem j4 (i : Nat) (hr : Region.ready md ops listed = [i] := by kernel_rfl) (hwt : waitsB W (listed.setIfInBounds i true) = false := by kernel_rfl) (ho : ops[i]? = some oi := by simp only [q9a, q9s, q9z]; rfl)
    (h : ∀ K' : Act → World → Prop, Shut (∀ a w, wpAnyW P md ops Q S W fuel (listed.setIfInBounds i true) a w → K' a w) → if Region.wanted oi (yielded ops a.tmps) = true then Oper.wp P oi a w K' Q else K' (a.put oi.dst undef) w) :
    wpAnyW P md ops Q S W (fuel + 1) listed a w := wpAnyW_freed hr hwt ho h
end
theorem RdS.grown {CA CB : Array Value} {w W W' : World} {row : Option Nat} (h : RdS CA CB w W) (hg : W.grownBy W' row) (hr : ∀ k, row = some k → w.heap.size + 2 ≤ k) : RdS CA CB w W' :=
  ⟨(hg.block _ (Array.getElem?_eq_some_iff.1 h.own).1 (fun e => by have := hr _ e.symm; omega)).trans h.own, (hg.block _ (Array.getElem?_eq_some_iff.1 h.out).1 (fun e => by have := hr _ e.symm; omega)).trans h.out, h.below.grown hg h.below.size fun k hk => by have := hr k hk; omega⟩
theorem RdS.size {CA CB : Array Value} {w W : World} (h : RdS CA CB w W) : w.heap.size + 2 ≤ W.heap.size := by
  have := (Array.getElem?_eq_some_iff.1 h.out).1
  omega
theorem OwnG.put9 {W : World} {B : Nat} {e : TypeId} {size : Nat} {v : Value} {n : Nat} {xs : List Value} {b : Nat} (h : OwnG W B e size v n xs) (hb : b < B) (i : Nat) (u : Value) : OwnG (W.setCell ⟨b, i, none⟩ u) B e size v n xs :=
  h.keep fun j hj => Below.heap_setCell _ _ _ _ (by have := (h.lt j hj).1; show j ≠ b; omega)
theorem OwnG.row9 {W : World} {B : Nat} {e : TypeId} {size : Nat} {v : Value} {n : Nat} {xs : List Value} {b : Nat} (h : OwnG W B e size v n xs) (hb : b < B) (cs : Array Value) : OwnG (W.setRow b cs) B e size v n xs :=
  h.keep fun j hj => setRow_other _ _ _ _ (by have := (h.lt j hj).1; omega)
/-- What the gathering of gaps stands at. -/
structure SkG (ty fl : Int) (m0 m1 : Nat) (G : Value) (ng : Nat) (xg : List Value) (w W : World) : Prop where
  box : RdS #[.int .i64 ty, .int .i64 fl, .int .u32 (m0 : Int), .int .u32 0, .int .u32 (m1 : Int), .int .u32 0, .int .u16 0, .int .u16 0, .int .u16 0, .int .u16 0, G, .slice none 0 0, .slice none 0 0, .string ⟨#[]⟩] #[.int .i64 0, .int .i64 0, .int .u32 0, .int .u32 0, .int .u32 0, .int .u32 0, .int .u16 0, .int .u16 0, .int .u16 0, .int .u16 0, .slice none 0 0, .slice none 0 0, .slice none 0 0, .string ⟨#[]⟩] w W
  gaps : OwnG W (w.heap.size + 2) 104 2 G ng xg
/-- What the gathering of what came twice stands at. -/
structure SkD (ty fl : Int) (m0 m1 : Nat) (G : Value) (ng : Nat) (xg : List Value) (B : Nat) (D : Value) (nd : Nat) (xd : List Value) (w W : World) : Prop where
  box : RdS #[.int .i64 ty, .int .i64 fl, .int .u32 (m0 : Int), .int .u32 0, .int .u32 (m1 : Int), .int .u32 0, .int .u16 0, .int .u16 0, .int .u16 0, .int .u16 0, G, D, .slice none 0 0, .string ⟨#[]⟩] #[.int .i64 0, .int .i64 0, .int .u32 0, .int .u32 0, .int .u32 0, .int .u32 0, .int .u16 0, .int .u16 0, .int .u16 0, .int .u16 0, .slice none 0 0, .slice none 0 0, .slice none 0 0, .string ⟨#[]⟩] w W
  gaps : OwnG W (w.heap.size + 2) 104 2 G ng xg
  dups : OwnG W B 23 1 D nd xd
  size : B ≤ W.heap.size
theorem gaps_more (L : List UInt8) (p n k : Nat) (h : k < n) : flatG (((List.range n).map fun i => (num L (p + 4 * i), num L (p + 4 * i + 2))).take (k + 1)) = flatG (((List.range n).map fun i => (num L (p + 4 * i), num L (p + 4 * i + 2))).take k) ++ [.int .u16 ((num L (p + 4 * k) : Nat) : Int), .int .u16 ((num L (p + 4 * k + 2) : Nat) : Int)] := by
  rw [List.take_succ_eq_append_getElem (by simpa using h), flatG_append]
  congr 1
  simp [flatG]
theorem dups_more (L : List UInt8) (p n k : Nat) (h : k < n) : (((List.range n).map fun i => num4 L (p + 4 * i)).take (k + 1)).map encN = (((List.range n).map fun i => num4 L (p + 4 * i)).take k).map encN ++ [.int .u32 ((num4 L (p + 4 * k) : Nat) : Int)] := by
  rw [List.take_succ_eq_append_getElem (by simpa using h), List.map_append]
  congr 1
  simp [encN]
set_option maxHeartbeats 8000000 in
theorem rsack_no (ty fl : Int) (v : ByteArray) (hv : v.size ≤ 1000000) (w : World) (hk : v.size < 12 ∨ v.size ≠ 12 + 4 * num v.data.toList 8 + 4 * num v.data.toList 10) :
    Calls Tryz.prog 94 #[.agg #[.int .i64 ty, .int .i64 fl, .int .u32 0, .int .u32 0, .int .u32 0, .int .u32 0, .int .u16 0, .int .u16 0, .int .u16 0, .int .u16 0, .slice none 0 0, .slice none 0 0, .slice none 0 0, .string ⟨#[]⟩], .string v] w fun e w' => e = .returned (.tuple #[.agg #[.int .i64 ty, .int .i64 fl, .int .u32 0, .int .u32 0, .int .u32 0, .int .u32 0, .int .u16 0, .int .u16 0, .int .u16 0, .int .u16 0, .slice none 0 0, .slice none 0 0, .slice none 0 0, .string ⟨#[]⟩], .bool false]) ∧ Below w.heap.size w w' := by
  have HRS := Lib.hid rkSize8
  by_cases hs : v.size < 12
  · have y0 : decide ((v.size : Int) < 12) = true := decide_eq_true (by omega)
    clear hk
    go_enter Tryz.func94, Tryz.ntmps94
    go_wp2_with (first
      | (refine wpList_load_row rfl 74 (.tmp 2) rfl w.heap.size rfl 74 #[.int .i64 ty, .int .i64 fl, .int .u32 0, .int .u32 0, .int .u32 0, .int .u32 0, .int .u16 0, .int .u16 0, .int .u16 0, .int .u16 0, .slice none 0 0, .slice none 0 0, .slice none 0 0, .string ⟨#[]⟩] (0, 0) _ (rdS_new #[.int .i64 ty, .int .i64 fl, .int .u32 0, .int .u32 0, .int .u32 0, .int .u32 0, .int .u16 0, .int .u16 0, .int .u16 0, .int .u16 0, .slice none 0 0, .slice none 0 0, .slice none 0 0, .string ⟨#[]⟩] #[.int .i64 0, .int .i64 0, .int .u32 0, .int .u32 0, .int .u32 0, .int .u32 0, .int .u16 0, .int .u16 0, .int .u16 0, .int .u16 0, .slice none 0 0, .slice none 0 0, .slice none 0 0, .string ⟨#[]⟩] w).own Tryz.underlying74 rfl HRS.out ?_))
    exact bodyPost_ret (v := .tuple #[.agg #[.int .i64 ty, .int .i64 fl, .int .u32 0, .int .u32 0, .int .u32 0, .int .u32 0, .int .u16 0, .int .u16 0, .int .u16 0, .int .u16 0, .slice none 0 0, .slice none 0 0, .slice none 0 0, .string ⟨#[]⟩], .bool false]) (results_row1 Tryz.results94 _ _ (w.heap.size + 1) _ #[.int .i64 ty, .int .i64 fl, .int .u32 0, .int .u32 0, .int .u32 0, .int .u32 0, .int .u16 0, .int .u16 0, .int .u16 0, .int .u16 0, .slice none 0 0, .slice none 0 0, .slice none 0 0, .string ⟨#[]⟩] _ _ (by rfl) (rdS_new #[.int .i64 ty, .int .i64 fl, .int .u32 0, .int .u32 0, .int .u32 0, .int .u32 0, .int .u16 0, .int .u16 0, .int .u16 0, .int .u16 0, .slice none 0 0, .slice none 0 0, .slice none 0 0, .string ⟨#[]⟩] #[.int .i64 ty, .int .i64 fl, .int .u32 0, .int .u32 0, .int .u32 0, .int .u32 0, .int .u16 0, .int .u16 0, .int .u16 0, .int .u16 0, .slice none 0 0, .slice none 0 0, .slice none 0 0, .string ⟨#[]⟩] w).out Tryz.underlying74 rfl HRS.out) rfl ⟨rfl, (rdS_new #[.int .i64 ty, .int .i64 fl, .int .u32 0, .int .u32 0, .int .u32 0, .int .u32 0, .int .u16 0, .int .u16 0, .int .u16 0, .int .u16 0, .slice none 0 0, .slice none 0 0, .slice none 0 0, .string ⟨#[]⟩] #[.int .i64 ty, .int .i64 fl, .int .u32 0, .int .u32 0, .int .u32 0, .int .u32 0, .int .u16 0, .int .u16 0, .int .u16 0, .int .u16 0, .slice none 0 0, .slice none 0 0, .slice none 0 0, .string ⟨#[]⟩] w).below⟩
  · have y0 : decide ((v.size : Int) < 12) = false := decide_eq_false (by omega)
    have HN0 := Lib.hid (fun W => num2_cut8 v 8 10 (by omega) rfl W)
    have HN1 := Lib.hid (fun W => num2_cut8 v 10 12 (by omega) rfl W)
    have b1 := num_lt v.data.toList 8
    have b2 := num_lt v.data.toList 10
    have y8 : (8 : Int) ≤ (v.size : Int) := by omega
    have y10 : (10 : Int) ≤ (v.size : Int) := by omega
    have y12 : (12 : Int) ≤ (v.size : Int) := by omega
    generalize num v.data.toList 8 = n1 at *
    generalize num v.data.toList 10 = n2 at *
    have kz : ((v.size : Int) != 12 + 4 * (n1 : Int) + 4 * (n2 : Int)) = true := bne_iff_ne.2 (by omega)
    clear hk
    go_enter Tryz.func94, Tryz.ntmps94
    go_wp2_with fail
    refine (HN0.out _).mono ?_
    rintro _ wx ⟨rfl, rfl⟩
    go_wp2_with fail
    refine (HN1.out _).mono ?_
    rintro _ wx ⟨rfl, rfl⟩
    go_wp2_with (first
      | (refine wpList_load_row rfl 74 (.tmp 2) rfl w.heap.size rfl 74 #[.int .i64 ty, .int .i64 fl, .int .u32 0, .int .u32 0, .int .u32 0, .int .u32 0, .int .u16 0, .int .u16 0, .int .u16 0, .int .u16 0, .slice none 0 0, .slice none 0 0, .slice none 0 0, .string ⟨#[]⟩] (0, 0) _ (rdS_new #[.int .i64 ty, .int .i64 fl, .int .u32 0, .int .u32 0, .int .u32 0, .int .u32 0, .int .u16 0, .int .u16 0, .int .u16 0, .int .u16 0, .slice none 0 0, .slice none 0 0, .slice none 0 0, .string ⟨#[]⟩] #[.int .i64 0, .int .i64 0, .int .u32 0, .int .u32 0, .int .u32 0, .int .u32 0, .int .u16 0, .int .u16 0, .int .u16 0, .int .u16 0, .slice none 0 0, .slice none 0 0, .slice none 0 0, .string ⟨#[]⟩] w).own Tryz.underlying74 rfl HRS.out ?_))
    exact bodyPost_ret (v := .tuple #[.agg #[.int .i64 ty, .int .i64 fl, .int .u32 0, .int .u32 0, .int .u32 0, .int .u32 0, .int .u16 0, .int .u16 0, .int .u16 0, .int .u16 0, .slice none 0 0, .slice none 0 0, .slice none 0 0, .string ⟨#[]⟩], .bool false]) (results_row1 Tryz.results94 _ _ (w.heap.size + 1) _ #[.int .i64 ty, .int .i64 fl, .int .u32 0, .int .u32 0, .int .u32 0, .int .u32 0, .int .u16 0, .int .u16 0, .int .u16 0, .int .u16 0, .slice none 0 0, .slice none 0 0, .slice none 0 0, .string ⟨#[]⟩] _ _ (by rfl) (rdS_new #[.int .i64 ty, .int .i64 fl, .int .u32 0, .int .u32 0, .int .u32 0, .int .u32 0, .int .u16 0, .int .u16 0, .int .u16 0, .int .u16 0, .slice none 0 0, .slice none 0 0, .slice none 0 0, .string ⟨#[]⟩] #[.int .i64 ty, .int .i64 fl, .int .u32 0, .int .u32 0, .int .u32 0, .int .u32 0, .int .u16 0, .int .u16 0, .int .u16 0, .int .u16 0, .slice none 0 0, .slice none 0 0, .slice none 0 0, .string ⟨#[]⟩] w).out Tryz.underlying74 rfl HRS.out) rfl ⟨rfl, (rdS_new #[.int .i64 ty, .int .i64 fl, .int .u32 0, .int .u32 0, .int .u32 0, .int .u32 0, .int .u16 0, .int .u16 0, .int .u16 0, .int .u16 0, .slice none 0 0, .slice none 0 0, .slice none 0 0, .string ⟨#[]⟩] #[.int .i64 ty, .int .i64 fl, .int .u32 0, .int .u32 0, .int .u32 0, .int .u32 0, .int .u16 0, .int .u16 0, .int .u16 0, .int .u16 0, .slice none 0 0, .slice none 0 0, .slice none 0 0, .string ⟨#[]⟩] w).below⟩
set_option maxHeartbeats 8000000 in
theorem rsack_yes (ty fl : Int) (v : ByteArray) (hv : v.size ≤ 1000000) (w : World) (h12 : 12 ≤ v.size) (hk : v.size = 12 + 4 * num v.data.toList 8 + 4 * num v.data.toList 10) :
    Calls Tryz.prog 94 #[.agg #[.int .i64 ty, .int .i64 fl, .int .u32 0, .int .u32 0, .int .u32 0, .int .u32 0, .int .u16 0, .int .u16 0, .int .u16 0, .int .u16 0, .slice none 0 0, .slice none 0 0, .slice none 0 0, .string ⟨#[]⟩], .string v] w fun e w' => ∃ g d, e = .returned (.tuple #[.agg #[.int .i64 ty, .int .i64 fl, .int .u32 (num4 v.data.toList 0 : Nat), .int .u32 0, .int .u32 (num4 v.data.toList 4 : Nat), .int .u32 0, .int .u16 0, .int .u16 0, .int .u16 0, .int .u16 0, g, d, .slice none 0 0, .string ⟨#[]⟩], .bool true]) ∧ OwnG w' w.heap.size 104 2 g (num v.data.toList 8) (flatG ((List.range (num v.data.toList 8)).map fun i => (num v.data.toList (12 + 4 * i), num v.data.toList (12 + 4 * i + 2)))) ∧ OwnG w' w.heap.size 23 1 d (num v.data.toList 10) (((List.range (num v.data.toList 10)).map fun i => num4 v.data.toList (12 + 4 * num v.data.toList 8 + 4 * i)).map encN) ∧ Below w.heap.size w w' := by
  have HRS := Lib.hid rkSize8
  obtain ⟨i0, hi0, hz0, hz1, hz2⟩ := info_parts gapInfo
  obtain ⟨i1, gi0, gz0, gz1, gz2⟩ := info_parts dupInfo
  have I0 := Lib.hid hi0
  have I1 := Lib.hid hz0
  have I2 := Lib.hid hz1
  have I3 := Lib.hid hz2
  have J0 := Lib.hid gi0
  have J1 := Lib.hid gz0
  have J2 := Lib.hid gz1
  have J3 := Lib.hid gz2
  clear hi0 hz0 hz1 hz2 gi0 gz0 gz1 gz2
  have y0 : decide ((v.size : Int) < 12) = false := decide_eq_false (by omega)
  have HN0 := Lib.hid (fun W => num2_cut8 v 8 10 (by omega) rfl W)
  have HN1 := Lib.hid (fun W => num2_cut8 v 10 12 (by omega) rfl W)
  have HN2 := Lib.hid (fun W => num4_cut8 v 0 4 (by omega) rfl W)
  have HN3 := Lib.hid (fun W => num4_cut8 v 4 8 (by omega) rfl W)
  have b1 := num_lt v.data.toList 8
  have b2 := num_lt v.data.toList 10
  have y8 : (8 : Int) ≤ (v.size : Int) := by omega
  have y10 : (10 : Int) ≤ (v.size : Int) := by omega
  have y12 : (12 : Int) ≤ (v.size : Int) := by omega
  have y4 : (4 : Int) ≤ (v.size : Int) := by omega
  generalize num v.data.toList 8 = n1 at *
  generalize num v.data.toList 10 = n2 at *
  generalize num4 v.data.toList 0 = m0 at *
  generalize num4 v.data.toList 4 = m1 at *
  have kz : ((v.size : Int) != 12 + 4 * (n1 : Int) + 4 * (n2 : Int)) = false := bne_eq_false_iff_eq.2 (by omega)
  have HG1 := Lib.hid (fun k (h : k < n1) W => num2_cut8 v (12 + 4 * k) (12 + 4 * k + 2) (by omega) rfl W)
  have HG2 := Lib.hid (fun k (h : k < n1) W => num2_cut8 v (12 + 4 * k + 2) (12 + 4 * k + 4) (by omega) rfl W)
  have HD1 := Lib.hid (fun k (h : k < n2) W => num4_cut8 v (12 + 4 * n1 + 4 * k) (12 + 4 * n1 + 4 * k + 4) (by omega) rfl W)
  have HGT := Lib.hid (fun k h => gaps_more v.data.toList 12 n1 k h)
  have HDT := Lib.hid (fun k h => dups_more v.data.toList (12 + 4 * n1) n2 k h)
  have HGA := Lib.hid (show ((List.range n1).map fun i => (num v.data.toList (12 + 4 * i), num v.data.toList (12 + 4 * i + 2))).take n1 = ((List.range n1).map fun i => (num v.data.toList (12 + 4 * i), num v.data.toList (12 + 4 * i + 2))) from List.take_of_length_le (by simp))
  have HDA := Lib.hid (show ((List.range n2).map fun i => num4 v.data.toList (12 + 4 * n1 + 4 * i)).take n2 = ((List.range n2).map fun i => num4 v.data.toList (12 + 4 * n1 + 4 * i)) from List.take_of_length_le (by simp))
  generalize ((List.range n1).map fun i => (num v.data.toList (12 + 4 * i), num v.data.toList (12 + 4 * i + 2))) = GL at *
  generalize ((List.range n2).map fun i => num4 v.data.toList (12 + 4 * n1 + 4 * i)) = DL at *
  have HK := Lib.hid hk
  clear hk
  have HS0 : Hid (SkG ty fl m0 m1 (.slice none 0 0) 0 (flatG (GL.take 0)) w ((w.alloc (.cells #[.int .i64 ty, .int .i64 fl, .int .u32 (m0 : Int), .int .u32 0, .int .u32 (m1 : Int), .int .u32 0, .int .u16 0, .int .u16 0, .int .u16 0, .int .u16 0, .slice none 0 0, .slice none 0 0, .slice none 0 0, .string ⟨#[]⟩] 74)).alloc (.cells #[.int .i64 0, .int .i64 0, .int .u32 0, .int .u32 0, .int .u32 0, .int .u32 0, .int .u16 0, .int .u16 0, .int .u16 0, .int .u16 0, .slice none 0 0, .slice none 0 0, .slice none 0 0, .string ⟨#[]⟩] 74))) := Lib.hid ⟨rdS_new _ _ _, OwnG.nil _ _ _ _⟩
  go_enter Tryz.func94, Tryz.ntmps94
  go_wp2_with fail
  refine (HN0.out _).mono ?_
  rintro _ wx ⟨rfl, rfl⟩
  go_wp2_with fail
  refine (HN1.out _).mono ?_
  rintro _ wx ⟨rfl, rfl⟩
  go_wp2_with fail
  refine (HN2.out _).mono ?_
  rintro _ wx ⟨rfl, rfl⟩
  go_wp2_with fail
  refine (HN3.out _).mono ?_
  rintro _ wx ⟨rfl, rfl⟩
  go_wp2_with fail
  clear HN0 HN1 HN2 HN3 y0 y8 y10 y12 y4 kz
  go_loopw [8] (fun i wr => ∃ (k : Nat) (A : Option Addr) (c : Nat), k ≤ n1 ∧ i = .int .i64 k ∧ Hid (SkG ty fl m0 m1 (.slice A k c) k (flatG (GL.take k)) w wr))
    (fun i _ => n1 - (intOf i).toNat)
  case atStart => exact ⟨0, none, 0, Nat.zero_le _, rfl, HS0⟩
  case round =>
    obtain ⟨k, A, c, hkn, rfl, HS⟩ := hrel
    by_cases hlt : k < n1
    · have HA1 := Lib.hid (fun W => HG1.out k hlt W)
      have HA2 := Lib.hid (fun W => HG2.out k hlt W)
      have HE := Lib.hid (HGT.out k hlt)
      have hb := fun i => num_lt v.data.toList i
      have hx := hb (12 + 4 * k)
      have hy := hb (12 + 4 * k + 2)
      clear hb
      generalize num v.data.toList (12 + 4 * k) = x at *
      generalize num v.data.toList (12 + 4 * k + 2) = y at *
      have z0 : (12 + 4 * (k : Int)).toNat = 12 + 4 * k := by omega
      have z2 : (12 + 4 * (k : Int) + 2).toNat = 12 + 4 * k + 2 := by omega
      have z4 : (12 + 4 * (k : Int) + 4).toNat = 12 + 4 * k + 4 := by omega
      have e2 : 12 + 4 * (k : Int) + 2 ≤ (v.size : Int) := by have := HK.out; omega
      have e4 : 12 + 4 * (k : Int) + 4 ≤ (v.size : Int) := by have := HK.out; omega
      have e5 : 0 ≤ 12 + 4 * (k : Int) + 2 := by omega
      have e6 : 0 ≤ 12 + 4 * (k : Int) + 4 := by omega
      have e0 : (0 : Int) ≤ 12 + 4 * (k : Int) := by omega
      have e1 : 12 + 4 * (k : Int) ≤ 12 + 4 * (k : Int) + 2 := by omega
      have e3 : 12 + 4 * (k : Int) + 2 ≤ 12 + 4 * (k : Int) + 4 := by omega
      have x1 : IntKind.u16.wrap (x : Int) = (x : Int) := by rw [IntKind.wrap_u16]; omega
      have x2 : IntKind.u16.wrap (y : Int) = (y : Int) := by rw [IntKind.wrap_u16]; omega
      have x3 : (x : Int) % 65536 = (x : Int) := by omega
      have x4 : (y : Int) % 65536 = (y : Int) := by omega
      have x5 : IntKind.i64.wrap (12 + 4 * (k : Int) + 2) = 12 + 4 * (k : Int) + 2 := by rw [IntKind.wrap_i64]; omega
      have x6 : IntKind.i64.wrap (12 + 4 * (k : Int) + 4) = 12 + 4 * (k : Int) + 4 := by rw [IntKind.wrap_i64]; omega
      clear HS0
      go_wp2_with fail
      have hszr : w.heap.size + 2 ≤ wr.heap.size := HS.out.box.size
      refine wp_region_noPanic ?_
      refine wp_region_waits (S := (RdS #[.int .i64 ty, .int .i64 fl, .int .u32 (m0 : Int), .int .u32 0, .int .u32 (m1 : Int), .int .u32 0, .int .u16 0, .int .u16 0, .int .u16 0, .int .u16 0, .slice A k c, .slice none 0 0, .slice none 0 0, .string ⟨#[]⟩] #[.int .i64 0, .int .i64 0, .int .u32 0, .int .u32 0, .int .u32 0, .int .u32 0, .int .u16 0, .int .u16 0, .int .u16 0, .int .u16 0, .slice none 0 0, .slice none 0 0, .slice none 0 0, .string ⟨#[]⟩] w)) [21] (by kernel_rfl) ?_ (fun hHeld => ?_)
      · exact HS.out.box.later (Below.refl _ _).drew
      refine j9 0 ?_ (y := ?_) (h := ?_)
      rotate_left 1
      · (intro w' hSw; clear hSw; (try dsimp only at hSw); go_simp; try with_reducible rfl)
      try simp only [Act.put, p9a, p9z, p9s]
      refine j9 1 ?_ (y := ?_) (h := ?_)
      rotate_left 1
      · (intro w' hSw; have cc : w'.cell? ⟨w.heap.size, 10, none⟩ = some (.slice A k c) := (by rw [cell_in hSw.own]; rfl); clear hSw; (try dsimp only at hSw); go_simp; try with_reducible rfl)
      try simp only [Act.put, p9a, p9z, p9s]
      refine j9 2 ?_ (y := ?_) (h := ?_)
      rotate_left 1
      · (intro w' hSw; clear hSw; (try dsimp only at hSw); go_simp; try with_reducible rfl)
      try simp only [Act.put, p9a, p9z, p9s]
      refine j9 3 ?_ (y := ?_) (h := ?_)
      rotate_left 1
      · (intro w' hSw; clear hSw; (try dsimp only at hSw); go_simp; try with_reducible rfl)
      try simp only [Act.put, p9a, p9z, p9s]
      refine j9 4 ?_ (y := ?_) (h := ?_)
      rotate_left 1
      · (intro w' hSw; clear hSw; (try dsimp only at hSw); go_simp; try with_reducible rfl)
      try simp only [Act.put, p9a, p9z, p9s]
      refine j9 5 ?_ (y := ?_) (h := ?_)
      rotate_left 1
      · (intro w' hSw; clear hSw; (try dsimp only at hSw); go_simp; try with_reducible rfl)
      try simp only [Act.put, p9a, p9z, p9s]
      refine j9 6 ?_ (y := ?_) (h := ?_)
      rotate_left 1
      · (intro w' hSw; clear hSw; (try dsimp only at hSw); go_simp; try with_reducible rfl)
      try simp only [Act.put, p9a, p9z, p9s]
      refine j9 9 ?_ (y := ?_) (h := ?_)
      rotate_left 1
      · (intro w' hSw; clear hSw; (try dsimp only at hSw); go_simp; try with_reducible rfl)
      try simp only [Act.put, p9a, p9z, p9s]
      refine j9 10 ?_ (y := ?_) (h := ?_)
      rotate_left 1
      · (intro w' hSw; clear hSw; (try dsimp only at hSw); go_simp; try with_reducible rfl)
      try simp only [Act.put, p9a, p9z, p9s]
      refine j9 11 ?_ (y := ?_) (h := ?_)
      rotate_left 1
      · (intro w' hSw; clear hSw; (try dsimp only at hSw); go_simp; try with_reducible rfl)
      try simp only [Act.put, p9a, p9z, p9s]
      refine j9 12 ?_ (y := ?_) (h := ?_)
      rotate_left 1
      · (intro w' hSw; clear hSw; (try dsimp only at hSw); go_simp; try with_reducible rfl)
      try simp only [Act.put, p9a, p9z, p9s]
      refine j9 13 ?_ (y := ?_) (h := ?_)
      rotate_left 1
      · (intro w' hSw; clear hSw; (try dsimp only at hSw); go_simp; try with_reducible rfl)
      try simp only [Act.put, p9a, p9z, p9s]
      refine j9 14 ?_ (y := ?_) (h := ?_)
      rotate_left 1
      · (intro w' hSw; clear hSw; (try dsimp only at hSw); go_simp; try with_reducible rfl)
      try simp only [Act.put, p9a, p9z, p9s]
      refine j3 7 (h := fun K hK => ?_)
      go_simp
      refine (HA1.out _).mono ?_
      rintro _ wx ⟨rfl, rfl⟩
      have hS := hHeld
      clear hHeld
      go_wp2_with fail
      refine hK.out _ _ ?_ (fun hHeld => ?_)
      · first | exact hS | exact hS _
      clear hK K
      try simp only [Act.put, p9a, p9z, p9s]
      refine j9 8 ?_ (y := ?_) (h := ?_)
      rotate_left 1
      · (intro w' hSw; clear hSw; (try dsimp only at hSw); go_simp; try with_reducible rfl)
      try simp only [Act.put, p9a, p9z, p9s]
      refine j3 15 (h := fun K hK => ?_)
      go_simp
      refine (HA2.out _).mono ?_
      rintro _ wx ⟨rfl, rfl⟩
      have hS := hHeld
      clear hHeld
      go_wp2_with fail
      refine hK.out _ _ ?_ (fun hHeld => ?_)
      · first | exact hS | exact hS _
      clear hK K
      try simp only [Act.put, p9a, p9z, p9s]
      refine j9 16 ?_ (y := ?_) (h := ?_)
      rotate_left 1
      · (intro w' hSw; clear hSw; (try dsimp only at hSw); go_simp; try with_reducible rfl)
      try simp only [Act.put, p9a, p9z, p9s]
      refine j9 17 ?_ (y := ?_) (h := ?_)
      rotate_left 1
      · (intro w' hSw; clear hSw; (try dsimp only at hSw); go_simp; try with_reducible rfl)
      try simp only [Act.put, p9a, p9z, p9s]
      refine j3 18 (h := fun K hK => ?_)
      have hS := fun o => hHeld.later ((Below.refl _ _).alloc (Nat.le_refl _) o)
      clear hHeld
      go_simp
      refine hK.out _ _ ?_ (fun hHeld => ?_)
      · first | exact hS | exact hS _
      clear hK K
      try simp only [Act.put, p9a, p9z, p9s]
      refine j3 19 (h := fun K hK => ?_)
      refine step_append_base _ (by rfl) (.tmp 51) (.tmp 68) 48 48 (by rfl) (w.heap.size + 2) (by have := hszr; show w.heap.size + 2 ≤ (World.alloc wr _).heap.size; rw [World.size_alloc]; omega) 104 i0 _ 2 4 Tryz.underlying48 (.inr ⟨_, Tryz.underlying48⟩) I0.out I1.out I2.out I3.out rfl _ k _ (by rfl) (HS.out.gaps.alloc _) _ 1 [.int .u16 (x : Int), .int .u16 (y : Int)] (by rfl) (Fed.heap (fed_two _ _ _ _ rfl rfl) rfl) ?_ ?_ ?_
      · simp only [maxLen]; omega
      · omega
      intro v5 w5 hown5 hg5
      obtain ⟨A5, c5, rfl, -⟩ := hown5.slice
      have hS := hHeld.grown hg5 (fun j hj => (HS.out.gaps.lt j hj).1)
      have HN5 := Lib.hid hown5
      skip
      clear hown5 hg5 hHeld
      refine hK.out _ _ ?_ (fun hHeld => ?_)
      · first | exact hS | exact hS _
      clear hK K
      try simp only [Act.put, p9a, p9z, p9s]
      refine j9 20 ?_ (y := ?_) (h := ?_)
      rotate_left 1
      · (intro w' hSw; clear hSw; (try dsimp only at hSw); go_simp; try with_reducible rfl)
      try simp only [Act.put, p9a, p9z, p9s]
      refine j4 21 (h := fun K hK => ?_)
      have HE5 := Lib.hid hHeld
      clear hHeld
      have c10 : w5.cell? ⟨w.heap.size, 10, none⟩ = some (.slice A k c) := by rw [cell_in HE5.out.own]; rfl
      have f10 : w5.frozen? ⟨w.heap.size, 10, none⟩ = false := frozen_of_row HE5.out.own 10
      go_simp
      refine hK.out _ _ ?_
      clear hK K
      try simp only [Act.put, p9a, p9z, p9s]
      refine wpAnyW_done (by kernel_rfl) ?_ _
      refine NoPanic.normal ?_
      have HS2 : Hid (SkG ty fl m0 m1 (.slice A5 (k + 1) c5) (k + 1) (flatG (GL.take (k + 1))) w (w5.setCell ⟨w.heap.size, 10, none⟩ (.slice A5 (k + 1) c5))) := Lib.hid ⟨HE5.out.put 10 (.slice A5 (k + 1) c5), by rw [HE.out]; exact HN5.out.put9 (by omega) 10 _⟩
      go_wp2_with fail
      go_roundw
      case rel => exact ⟨k + 1, A5, c5, by omega, by go_num, HS2⟩
      case measure => simp [intOf]; omega
    · obtain rfl : k = n1 := by omega
      have HB := Lib.hid (show ∀ j, (Value.slice A k c).ownBlock = some j → j < wr.heap.size from fun j hj => (HS.out.gaps.lt j hj).2)
      have hsz := HS.out.box.size
      have HS1 : Hid (SkD ty fl m0 m1 (.slice A k c) k (flatG (GL.take k)) wr.heap.size (.slice none 0 0) 0 ((DL.take 0).map encN) w wr) := Lib.hid ⟨HS.out.box, HS.out.gaps, OwnG.nil _ _ _ _, Nat.le_refl _⟩
      clear HS HS0 HG1 HG2
      generalize wr = wq at *
      go_wp2_with fail
      go_loopw [10] (fun i wr => ∃ (j : Nat) (A' : Option Addr) (c' : Nat), j ≤ n2 ∧ i = .int .i64 j ∧ Hid (SkD ty fl m0 m1 (.slice A k c) k (flatG (GL.take k)) wq.heap.size (.slice A' j c') j ((DL.take j).map encN) w wr))
        (fun i _ => n2 - (intOf i).toNat)
      case atStart => exact ⟨0, none, 0, Nat.zero_le _, rfl, HS1⟩
      case round =>
        obtain ⟨j, A', c', hjn, rfl, HS⟩ := hrel
        by_cases hlt : j < n2
        · have HA1 := Lib.hid (fun W => HD1.out j hlt W)
          have HE := Lib.hid (HDT.out j hlt)
          have hx := num4_lt v.data.toList (12 + 4 * k + 4 * j)
          generalize num4 v.data.toList (12 + 4 * k + 4 * j) = x at *
          have z0 : (12 + 4 * (k : Int) + 4 * (j : Int)).toNat = 12 + 4 * k + 4 * j := by omega
          have z4 : (12 + 4 * (k : Int) + 4 * (j : Int) + 4).toNat = 12 + 4 * k + 4 * j + 4 := by omega
          have e0 : (0 : Int) ≤ 12 + 4 * (k : Int) + 4 * (j : Int) := by omega
          have e1 : 12 + 4 * (k : Int) + 4 * (j : Int) ≤ 12 + 4 * (k : Int) + 4 * (j : Int) + 4 := by omega
          have e4 : 12 + 4 * (k : Int) + 4 * (j : Int) + 4 ≤ (v.size : Int) := by have := HK.out; omega
          have e5 : 0 ≤ 12 + 4 * (k : Int) + 4 * (j : Int) + 4 := by omega
          have x6 : IntKind.i64.wrap (12 + 4 * (k : Int) + 4 * (j : Int) + 4) = 12 + 4 * (k : Int) + 4 * (j : Int) + 4 := by rw [IntKind.wrap_i64]; omega
          clear HS1
          go_wp2_with fail
          have hszr : wq.heap.size ≤ wr.heap.size := HS.out.size
          refine wp_region_noPanic ?_
          refine wp_region_waits (S := (RdS #[.int .i64 ty, .int .i64 fl, .int .u32 (m0 : Int), .int .u32 0, .int .u32 (m1 : Int), .int .u32 0, .int .u16 0, .int .u16 0, .int .u16 0, .int .u16 0, .slice A k c, .slice A' j c', .slice none 0 0, .string ⟨#[]⟩] #[.int .i64 0, .int .i64 0, .int .u32 0, .int .u32 0, .int .u32 0, .int .u32 0, .int .u16 0, .int .u16 0, .int .u16 0, .int .u16 0, .slice none 0 0, .slice none 0 0, .slice none 0 0, .string ⟨#[]⟩] w)) [11] (by kernel_rfl) ?_ (fun hHeld => ?_)
          · exact HS.out.box.later (Below.refl _ _).drew
          refine j9 0 ?_ (y := ?_) (h := ?_)
          rotate_left 1
          · (intro w' hSw; clear hSw; (try dsimp only at hSw); go_simp; try with_reducible rfl)
          try simp only [Act.put, p9a, p9z, p9s]
          refine j9 1 ?_ (y := ?_) (h := ?_)
          rotate_left 1
          · (intro w' hSw; have cc : w'.cell? ⟨w.heap.size, 11, none⟩ = some (.slice A' j c') := (by rw [cell_in hSw.own]; rfl); clear hSw; (try dsimp only at hSw); go_simp; try with_reducible rfl)
          try simp only [Act.put, p9a, p9z, p9s]
          refine j9 2 ?_ (y := ?_) (h := ?_)
          rotate_left 1
          · (intro w' hSw; clear hSw; (try dsimp only at hSw); go_simp; try with_reducible rfl)
          try simp only [Act.put, p9a, p9z, p9s]
          refine j9 3 ?_ (y := ?_) (h := ?_)
          rotate_left 1
          · (intro w' hSw; clear hSw; (try dsimp only at hSw); go_simp; try with_reducible rfl)
          try simp only [Act.put, p9a, p9z, p9s]
          refine j9 4 ?_ (y := ?_) (h := ?_)
          rotate_left 1
          · (intro w' hSw; clear hSw; (try dsimp only at hSw); go_simp; try with_reducible rfl)
          try simp only [Act.put, p9a, p9z, p9s]
          refine j9 5 ?_ (y := ?_) (h := ?_)
          rotate_left 1
          · (intro w' hSw; clear hSw; (try dsimp only at hSw); go_simp; try with_reducible rfl)
          try simp only [Act.put, p9a, p9z, p9s]
          refine j9 6 ?_ (y := ?_) (h := ?_)
          rotate_left 1
          · (intro w' hSw; clear hSw; (try dsimp only at hSw); go_simp; try with_reducible rfl)
          try simp only [Act.put, p9a, p9z, p9s]
          refine j3 7 (h := fun K hK => ?_)
          go_simp
          refine (HA1.out _).mono ?_
          rintro _ wx ⟨rfl, rfl⟩
          have hS := hHeld
          clear hHeld
          go_wp2_with fail
          refine hK.out _ _ ?_ (fun hHeld => ?_)
          · first | exact hS | exact hS _
          clear hK K
          try simp only [Act.put, p9a, p9z, p9s]
          refine j3 8 (h := fun K hK => ?_)
          have hS := fun o => hHeld.later ((Below.refl _ _).alloc (Nat.le_refl _) o)
          clear hHeld
          go_simp
          refine hK.out _ _ ?_ (fun hHeld => ?_)
          · first | exact hS | exact hS _
          clear hK K
          try simp only [Act.put, p9a, p9z, p9s]
          refine j3 9 (h := fun K hK => ?_)
          refine step_append_base _ (by rfl) (.tmp 83) (.tmp 90) 49 49 (by rfl) wq.heap.size (by have := hszr; show wq.heap.size ≤ (World.alloc wr _).heap.size; rw [World.size_alloc]; omega) 23 i1 _ 1 4 Tryz.underlying49 (.inr ⟨_, Tryz.underlying49⟩) J0.out J1.out J2.out J3.out rfl _ j _ (by rfl) (HS.out.dups.alloc _) _ 1 [.int .u32 (x : Int)] (by rfl) (Fed.heap (Fed.block (heap_alloc_new _ _) rfl (by simp [Value.oneCell'])) rfl) ?_ ?_ ?_
          · simp only [maxLen]; omega
          · omega
          intro v5 w5 hown5 hg5
          obtain ⟨A5, c5, rfl, -⟩ := hown5.slice
          have hS := hHeld.grown hg5 (fun j hj => (Nat.le_trans hsz (HS.out.dups.lt j hj).1))
          have HN5 := Lib.hid hown5
          have HG5 := Lib.hid ((HS.out.gaps.alloc _).keep fun i hi => hg5.block i (by have := HB.out i hi; show i < (World.alloc wr _).heap.size; rw [World.size_alloc]; omega) fun e => by have h1 := HB.out i hi; have h2 := (HS.out.dups.lt i e.symm).1; omega)
          have hz5 : wq.heap.size ≤ w5.heap.size := Nat.le_trans (show wq.heap.size ≤ (World.alloc wr _).heap.size from by rw [World.size_alloc]; omega) hg5.size
          clear hown5 hg5 hHeld
          refine hK.out _ _ ?_ (fun hHeld => ?_)
          · first | exact hS | exact hS _
          clear hK K
          try simp only [Act.put, p9a, p9z, p9s]
          refine j9 10 ?_ (y := ?_) (h := ?_)
          rotate_left 1
          · (intro w' hSw; clear hSw; (try dsimp only at hSw); go_simp; try with_reducible rfl)
          try simp only [Act.put, p9a, p9z, p9s]
          refine j4 11 (h := fun K hK => ?_)
          have HE5 := Lib.hid hHeld
          clear hHeld
          have c10 : w5.cell? ⟨w.heap.size, 11, none⟩ = some (.slice A' j c') := by rw [cell_in HE5.out.own]; rfl
          have f10 : w5.frozen? ⟨w.heap.size, 11, none⟩ = false := frozen_of_row HE5.out.own 11
          go_simp
          refine hK.out _ _ ?_
          clear hK K
          try simp only [Act.put, p9a, p9z, p9s]
          refine wpAnyW_done (by kernel_rfl) ?_ _
          refine NoPanic.normal ?_
          have HS2 : Hid (SkD ty fl m0 m1 (.slice A k c) k (flatG (GL.take k)) wq.heap.size (.slice A5 (j + 1) c5) (j + 1) ((DL.take (j + 1)).map encN) w (w5.setCell ⟨w.heap.size, 11, none⟩ (.slice A5 (j + 1) c5))) := Lib.hid ⟨HE5.out.put 11 (.slice A5 (j + 1) c5), HG5.out.put9 (by omega) 11 _, by rw [HE.out]; exact HN5.out.put9 (by omega) 11 _, by simpa using hz5⟩
          go_wp2_with fail
          go_roundw
          case rel => exact ⟨j + 1, A5, c5, by omega, by go_num, HS2⟩
          case measure => simp [intOf]; omega
        · obtain rfl : j = n2 := by omega
          rw [HGA.out, HDA.out] at HS
          have HEE := Lib.hid HS.out.box
          have HONE := Lib.hid (show (#[.int .i64 ty, .int .i64 fl, .int .u32 (m0 : Int), .int .u32 0, .int .u32 (m1 : Int), .int .u32 0, .int .u16 0, .int .u16 0, .int .u16 0, .int .u16 0, .slice A k c, .slice A' j c', .slice none 0 0, .string ⟨#[]⟩] : Array Value).all (·.oneCell') = true from by simp [Value.oneCell'])
          go_wp2_with (first
            | (refine wpList_load_row rfl 74 (.tmp 2) rfl w.heap.size rfl 74 #[.int .i64 ty, .int .i64 fl, .int .u32 (m0 : Int), .int .u32 0, .int .u32 (m1 : Int), .int .u32 0, .int .u16 0, .int .u16 0, .int .u16 0, .int .u16 0, .slice A k c, .slice A' j c', .slice none 0 0, .string ⟨#[]⟩] (0, 0) _ HEE.out.own Tryz.underlying74 rfl HRS.out ?_)
            | (refine wpList_store_row rfl 74 (.tmp 4) (.tmp 93) rfl (w.heap.size + 1) #[.int .i64 ty, .int .i64 fl, .int .u32 (m0 : Int), .int .u32 0, .int .u32 (m1 : Int), .int .u32 0, .int .u16 0, .int .u16 0, .int .u16 0, .int .u16 0, .slice A k c, .slice A' j c', .slice none 0 0, .string ⟨#[]⟩] rfl rfl 74 _ HEE.out.out HRS.out rfl HONE.out ?_))
          exact bodyPost_ret (v := .tuple #[.agg #[.int .i64 ty, .int .i64 fl, .int .u32 (m0 : Int), .int .u32 0, .int .u32 (m1 : Int), .int .u32 0, .int .u16 0, .int .u16 0, .int .u16 0, .int .u16 0, .slice A k c, .slice A' j c', .slice none 0 0, .string ⟨#[]⟩], .bool true]) (results_row1 Tryz.results94 _ _ (w.heap.size + 1) _ #[.int .i64 ty, .int .i64 fl, .int .u32 (m0 : Int), .int .u32 0, .int .u32 (m1 : Int), .int .u32 0, .int .u16 0, .int .u16 0, .int .u16 0, .int .u16 0, .slice A k c, .slice A' j c', .slice none 0 0, .string ⟨#[]⟩] _ _ (by rfl) (setRow_heap _ _ _ _ _ _ HEE.out.out) Tryz.underlying74 rfl HRS.out) rfl ⟨_, _, rfl, OwnG.base (HS.out.gaps.row9 (b := w.heap.size + 1) (by omega) _) (by omega), OwnG.base (HS.out.dups.row9 (b := w.heap.size + 1) (by omega) _) (by omega), below_setRow HEE.out.below (by omega) _⟩
end Go.Proofs.YtlbaockipeojhaaGreat
end
section
namespace Go.Proofs.YtlbaockipeojhaaGreat
open Go.RowKit
set_option linter.unusedVariables false
set_option linter.unusedSimpArgs false
set_option maxRecDepth 100000

theorem RdS.range {CA CB : Array Value} {w W : World} (h : RdS CA CB w W) : W.rangeAt w.heap.size 0 CA.toList := by
  intro j v hj
  rw [Nat.zero_add, cell_in h.own]
  simpa using hj
set_option maxHeartbeats 8000000 in
theorem rread_1 (ty fl : Int) (v : ByteArray) (hv : v.size ≤ 1000000) (w : World) (hk : ty = 1 ∨ ty = 2) (hs : 16 ≤ v.size) :
    Calls Tryz.prog 61 #[.agg #[.int .i64 ty, .int .i64 fl, .int .u32 0, .int .u32 0, .int .u32 0, .int .u32 0, .int .u16 0, .int .u16 0, .int .u16 0, .int .u16 0, .slice none 0 0, .slice none 0 0, .slice none 0 0, .string ⟨#[]⟩], .string v] w fun e w' => ∃ it', e = .returned (.tuple #[.agg #[.int .i64 ty, .int .i64 fl, .int .u32 (num4 v.data.toList 12 : Nat), .int .u32 (num4 v.data.toList 0 : Nat), .int .u32 (num4 v.data.toList 4 : Nat), .int .u32 0, .int .u16 0, .int .u16 0, .int .u16 (num v.data.toList 8 : Nat), .int .u16 (num v.data.toList 10 : Nat), .slice none 0 0, .slice none 0 0, it', .string ⟨#[]⟩], .bool (decide ((parseB (cutB v 16)).2.2 = 0))]) ∧ OwnG w' w.heap.size 105 2 it' (parseB (cutB v 16)).1.length (flatI (parseB (cutB v 16)).1) ∧ Below w.heap.size w w' := by
  have HRS := Lib.hid rkSize8
  have HIT0 := fun W => ritems_any ⟨ty, fl, num4 v.data.toList 12, num4 v.data.toList 0, num4 v.data.toList 4, 0, 0, 0, num v.data.toList 8, num v.data.toList 10, [], [], [], noB⟩ (.slice none 0 0) (.slice none 0 0) (.slice none 0 0) (cutB v 16) (by rw [cut_size]; omega) W ⟨RowG.nil _, RowN.nil _, RowI.nil _⟩
  have HN0 := Lib.hid (fun W => num4_cut8 v 0 4 (by omega) rfl W)
  have HN1 := Lib.hid (fun W => num4_cut8 v 4 8 (by omega) rfl W)
  have HN2 := Lib.hid (fun W => num2_cut8 v 8 10 (by omega) rfl W)
  have HN3 := Lib.hid (fun W => num2_cut8 v 10 12 (by omega) rfl W)
  have HN4 := Lib.hid (fun W => num4_cut8 v 12 16 (by omega) rfl W)
  have b1 := num_lt v.data.toList 8
  have b2 := num_lt v.data.toList 10
  have y0 : decide ((v.size : Int) < 16) = false := decide_eq_false (by omega)
  have y4 : (4 : Int) ≤ (v.size : Int) := by omega
  have y8 : (8 : Int) ≤ (v.size : Int) := by omega
  have y10 : (10 : Int) ≤ (v.size : Int) := by omega
  have y12 : (12 : Int) ≤ (v.size : Int) := by omega
  have y16 : (16 : Int) ≤ (v.size : Int) := by omega
  dsimp only [cellsC, itemsC] at HIT0
  rw [← cut_is8] at *
  generalize num4 v.data.toList 0 = m0 at *
  generalize num4 v.data.toList 4 = m1 at *
  generalize num v.data.toList 8 = m2 at *
  generalize num v.data.toList 10 = m3 at *
  generalize num4 v.data.toList 12 = m4 at *
  generalize decide ((parseB (v.extract 16 v.size)).2.2 = 0) = q at *
  generalize hn4 : (parseB (v.extract 16 v.size)).1.length = n4 at *
  have u1 : (m2 : Int) % 65536 = (m2 : Int) := by omega
  have u2 : (m3 : Int) % 65536 = (m3 : Int) := by omega
  have u3 : IntKind.u16.wrap (m2 : Int) = (m2 : Int) := by rw [IntKind.wrap_u16]; omega
  have u4 : IntKind.u16.wrap (m3 : Int) = (m3 : Int) := by rw [IntKind.wrap_u16]; omega
  have HIT : Hid (∀ W, Calls Tryz.prog 93 #[.agg #[.int .i64 ty, .int .i64 fl, .int .u32 (m4 : Int), .int .u32 (m0 : Int), .int .u32 (m1 : Int), .int .u32 0, .int .u16 0, .int .u16 0, .int .u16 (m2 : Int), .int .u16 (m3 : Int), .slice none 0 0, .slice none 0 0, .slice none 0 0, .string ⟨#[]⟩], .string (v.extract 16 v.size)] W fun e w' => ∃ it', e = .returned (.tuple #[.agg #[.int .i64 ty, .int .i64 fl, .int .u32 (m4 : Int), .int .u32 (m0 : Int), .int .u32 (m1 : Int), .int .u32 0, .int .u16 0, .int .u16 0, .int .u16 (m2 : Int), .int .u16 (m3 : Int), .slice none 0 0, .slice none 0 0, it', .string ⟨#[]⟩], .bool q]) ∧ OwnG w' W.heap.size 105 2 it' n4 (flatI (parseB (v.extract 16 v.size)).1) ∧ Below W.heap.size W w') := Lib.hid HIT0
  clear HIT0
  have HS0 := Lib.hid (rdS_new #[.int .i64 ty, .int .i64 fl, .int .u32 (m4 : Int), .int .u32 (m0 : Int), .int .u32 (m1 : Int), .int .u32 0, .int .u16 0, .int .u16 0, .int .u16 (m2 : Int), .int .u16 (m3 : Int), .slice none 0 0, .slice none 0 0, .slice none 0 0, .string ⟨#[]⟩] #[.int .i64 0, .int .i64 0, .int .u32 0, .int .u32 0, .int .u32 0, .int .u32 0, .int .u16 0, .int .u16 0, .int .u16 0, .int .u16 0, .slice none 0 0, .slice none 0 0, .slice none 0 0, .string ⟨#[]⟩] w)
  have z0 : (ty == 0) = false := beq_eq_false_iff_ne.2 (by omega)
  have hz : (ty == 1) = true ∨ ((ty == 1) = false ∧ (ty == 2) = true) := by
    rcases hk with h | h
    · exact .inl (beq_iff_eq.2 h)
    · exact .inr ⟨beq_eq_false_iff_ne.2 (by omega), beq_iff_eq.2 h⟩
  clear hk
  rcases hz with z1 | ⟨z1, z2⟩
  all_goals
    go_enter Tryz.func61, Tryz.ntmps61
    go_wp2_with fail
    refine (HN0.out _).mono ?_
    rintro _ wx ⟨rfl, rfl⟩
    go_wp2_with fail
    refine (HN1.out _).mono ?_
    rintro _ wx ⟨rfl, rfl⟩
    go_wp2_with fail
    refine (HN2.out _).mono ?_
    rintro _ wx ⟨rfl, rfl⟩
    go_wp2_with fail
    refine (HN3.out _).mono ?_
    rintro _ wx ⟨rfl, rfl⟩
    go_wp2_with fail
    refine (HN4.out _).mono ?_
    rintro _ wx ⟨rfl, rfl⟩
    go_wp2_with fail
    refine wp_region_noPanic ?_
    refine wp_region_waits (S := (RdS #[.int .i64 ty, .int .i64 fl, .int .u32 (m4 : Int), .int .u32 (m0 : Int), .int .u32 (m1 : Int), .int .u32 0, .int .u16 0, .int .u16 0, .int .u16 (m2 : Int), .int .u16 (m3 : Int), .slice none 0 0, .slice none 0 0, .slice none 0 0, .string ⟨#[]⟩] #[.int .i64 0, .int .i64 0, .int .u32 0, .int .u32 0, .int .u32 0, .int .u32 0, .int .u16 0, .int .u16 0, .int .u16 0, .int .u16 0, .slice none 0 0, .slice none 0 0, .slice none 0 0, .string ⟨#[]⟩] w)) [6] (by kernel_rfl) ?_ (fun hHeld => ?_)
    · exact HS0.out.later (Below.refl _ _).drew
    refine j7 0 _ (y := (yieldsIf_load_mid (by rfl) 74 (.tmp 2) rfl w.heap.size 0 (by rfl) _ _ (fun W h => RdS.range h) Tryz.underlying74 rfl HRS.out)) (h := ?_)
    try simp only [Act.put, p9a, p9z, p9s]
    refine j9 1 ?_ (y := ?_) (h := ?_)
    rotate_left 1
    · (intro w' hSw; clear hSw; (try dsimp only at hSw); go_simp; try with_reducible rfl)
    try simp only [Act.put, p9a, p9z, p9s]
    refine j9 2 ?_ (y := ?_) (h := ?_)
    rotate_left 1
    · (intro w' hSw; clear hSw; (try dsimp only at hSw); go_simp; try with_reducible rfl)
    try simp only [Act.put, p9a, p9z, p9s]
    refine j3 3 (h := fun K hK => ?_)
    go_simp
    refine (HIT.out _).mono ?_
    rintro _ w1 ⟨V4, rfl, hown, hb1⟩
    obtain ⟨A4, k4, rfl, -⟩ := hown.slice
    have hS := hHeld.later hb1
    have HO := Lib.hid hown
    have hz1 := hHeld.size
    clear hHeld hb1 hown
    go_wp2_with fail
    refine hK.out _ _ ?_ (fun hHeld => ?_)
    · exact hS
    clear hK K
    try simp only [Act.put, p9a, p9z, p9s]
    refine j9 4 ?_ (y := ?_) (h := ?_)
    rotate_left 1
    · (intro w' hSw; clear hSw; (try dsimp only at hSw); go_simp; try with_reducible rfl)
    try simp only [Act.put, p9a, p9z, p9s]
    refine j9 5 ?_ (y := ?_) (h := ?_)
    rotate_left 1
    · (intro w' hSw; clear hSw; (try dsimp only at hSw); go_simp; try with_reducible rfl)
    try simp only [Act.put, p9a, p9z, p9s]
    refine j4 6 (h := fun K hK => ?_)
    rw [if_pos (by rfl)]
    have HSE := Lib.hid hHeld
    clear hHeld
    have HONE := Lib.hid (show (#[.int .i64 ty, .int .i64 fl, .int .u32 (m4 : Int), .int .u32 (m0 : Int), .int .u32 (m1 : Int), .int .u32 0, .int .u16 0, .int .u16 0, .int .u16 (m2 : Int), .int .u16 (m3 : Int), .slice none 0 0, .slice none 0 0, .slice A4 n4 k4, .string ⟨#[]⟩] : Array Value).all (·.oneCell') = true from by simp [Value.oneCell'])
    refine wp_store_row 74 (.tmp 4) (.tmp 69) rfl (w.heap.size + 1) #[.int .i64 ty, .int .i64 fl, .int .u32 (m4 : Int), .int .u32 (m0 : Int), .int .u32 (m1 : Int), .int .u32 0, .int .u16 0, .int .u16 0, .int .u16 (m2 : Int), .int .u16 (m3 : Int), .slice none 0 0, .slice none 0 0, .slice A4 n4 k4, .string ⟨#[]⟩] rfl rfl 74 _ HSE.out.out HRS.out rfl HONE.out ?_
    refine hK.out _ _ ?_
    clear hK K
    try simp only [Act.put, p9a, p9z, p9s]
    refine j4 7 (h := fun K hK => ?_)
    go_simp
    refine hK.out _ _ ?_
    clear hK K
    try simp only [Act.put, p9a, p9z, p9s]
    refine wpAnyW_done (by kernel_rfl) ?_ _
    refine NoPanic.normal ?_
    have HO2 : Hid (OwnG (w1.setRow (w.heap.size + 1) #[.int .i64 ty, .int .i64 fl, .int .u32 (m4 : Int), .int .u32 (m0 : Int), .int .u32 (m1 : Int), .int .u32 0, .int .u16 0, .int .u16 0, .int .u16 (m2 : Int), .int .u16 (m3 : Int), .slice none 0 0, .slice none 0 0, .slice A4 n4 k4, .string ⟨#[]⟩]) w.heap.size 105 2 (.slice A4 n4 k4) n4 (flatI (parseB (v.extract 16 v.size)).1)) := Lib.hid (by
      have hlt := fun j hj => HO.out.lt j hj
      refine (OwnG.base HO.out (by omega)).keep fun j hj => ?_
      have := (hlt j hj).1
      rw [setRow_other _ _ _ _ (by omega)])
    go_wp2_with fail
    exact bodyPost_ret (v := .tuple #[.agg #[.int .i64 ty, .int .i64 fl, .int .u32 (m4 : Int), .int .u32 (m0 : Int), .int .u32 (m1 : Int), .int .u32 0, .int .u16 0, .int .u16 0, .int .u16 (m2 : Int), .int .u16 (m3 : Int), .slice none 0 0, .slice none 0 0, .slice A4 n4 k4, .string ⟨#[]⟩], .bool q]) (results_row1 Tryz.results61 _ _ (w.heap.size + 1) _ #[.int .i64 ty, .int .i64 fl, .int .u32 (m4 : Int), .int .u32 (m0 : Int), .int .u32 (m1 : Int), .int .u32 0, .int .u16 0, .int .u16 0, .int .u16 (m2 : Int), .int .u16 (m3 : Int), .slice none 0 0, .slice none 0 0, .slice A4 n4 k4, .string ⟨#[]⟩] _ _ (by rfl) (setRow_heap _ _ _ _ _ _ HSE.out.out) Tryz.underlying74 rfl HRS.out) rfl ⟨_, rfl, HO2.out, below_setRow HSE.out.below (by omega) _⟩
end Go.Proofs.YtlbaockipeojhaaGreat
end
section
namespace Go.Proofs.YtlbaockipeojhaaGreat
open Go.RowKit
set_option linter.unusedVariables false
set_option linter.unusedSimpArgs false
set_option maxRecDepth 100000

theorem sackC_yes (k f : Int) (v : ByteArray) (h : 12 ≤ v.size) (hk : v.size = 12 + 4 * num v.data.toList 8 + 4 * num v.data.toList 10) : sackC (zeroC k f) v = (⟨k, f, num4 v.data.toList 0, 0, num4 v.data.toList 4, 0, 0, 0, 0, 0, (List.range (num v.data.toList 8)).map (fun i => (num v.data.toList (12 + 4 * i), num v.data.toList (12 + 4 * i + 2))), (List.range (num v.data.toList 10)).map (fun i => num4 v.data.toList (12 + 4 * num v.data.toList 8 + 4 * i)), [], noB⟩, true) := by
  unfold sackC
  rw [if_neg (by omega), if_neg (by omega)]
  rfl
theorem sackC_no (k f : Int) (v : ByteArray) (hk : v.size < 12 ∨ v.size ≠ 12 + 4 * num v.data.toList 8 + 4 * num v.data.toList 10) : sackC (zeroC k f) v = (zeroC k f, false) := by
  unfold sackC
  by_cases h : v.size < 12
  · rw [if_pos h]
  · rw [if_neg h, if_pos (by omega)]
theorem rsack_any (k f : Int) (v : ByteArray) (hv : v.size ≤ 1000000) (w : World) :
    Calls Tryz.prog 94 #[.agg (cellsC (zeroC k f) (.slice none 0 0) (.slice none 0 0) (.slice none 0 0)), .string v] w fun e w' => ∃ g d, e = .returned (.tuple #[.agg (cellsC (sackC (zeroC k f) v).1 g d (.slice none 0 0)), .bool (sackC (zeroC k f) v).2]) ∧ (sackC (zeroC k f) v).1.items = [] ∧ OwnG w' w.heap.size 104 2 g (sackC (zeroC k f) v).1.gaps.length (flatG (sackC (zeroC k f) v).1.gaps) ∧ OwnG w' w.heap.size 23 1 d (sackC (zeroC k f) v).1.dups.length ((sackC (zeroC k f) v).1.dups.map encN) ∧ Below w.heap.size w w' := by
  by_cases h : 12 ≤ v.size ∧ v.size = 12 + 4 * num v.data.toList 8 + 4 * num v.data.toList 10
  · rw [sackC_yes k f v h.1 h.2]
    refine (rsack_yes k f v hv w h.1 h.2).mono ?_
    rintro e w' ⟨g, d, rfl, h1, h2, h3⟩
    refine ⟨g, d, rfl, rfl, ?_, ?_, h3⟩
    · show OwnG w' _ _ 2 g ((List.range _).map _).length _
      rw [List.length_map, List.length_range]
      exact h1
    · show OwnG w' _ _ 1 d ((List.range _).map _).length _
      rw [List.length_map, List.length_range]
      exact h2
  · have hk : v.size < 12 ∨ v.size ≠ 12 + 4 * num v.data.toList 8 + 4 * num v.data.toList 10 := by omega
    rw [sackC_no k f v hk]
    refine (rsack_no k f v hv w hk).mono ?_
    rintro e w' ⟨rfl, h3⟩
    exact ⟨(.slice none 0 0), (.slice none 0 0), rfl, rfl, OwnG.nil _ _ _ _, OwnG.nil _ _ _ _, h3⟩
theorem OwnG.place {W : World} {B : Nat} {e : TypeId} {size : Nat} {v : Value} {n : Nat} {xs : List Value} (h : OwnG W B e size v n xs) : ∀ k, v.ownBlock = some k → B ≤ k := fun k hk => (h.lt k hk).1
set_option maxHeartbeats 8000000 in
theorem rread_3 (f : Int) (v : ByteArray) (hv : v.size ≤ 1000000) (w : World) :
    Calls Tryz.prog 61 #[.agg #[.int .i64 3, .int .i64 f, .int .u32 0, .int .u32 0, .int .u32 0, .int .u32 0, .int .u16 0, .int .u16 0, .int .u16 0, .int .u16 0, .slice none 0 0, .slice none 0 0, .slice none 0 0, .string ⟨#[]⟩], .string v] w (ValQ (sackC (zeroC 3 f) v).1 (sackC (zeroC 3 f) v).2 w) := by
  have HRS := Lib.hid rkSize8
  have hsk : ∀ W, Calls Tryz.prog 94 #[.agg #[.int .i64 3, .int .i64 f, .int .u32 0, .int .u32 0, .int .u32 0, .int .u32 0, .int .u16 0, .int .u16 0, .int .u16 0, .int .u16 0, .slice none 0 0, .slice none 0 0, .slice none 0 0, .string ⟨#[]⟩], .string v] W _ := fun W => rsack_any 3 f v hv W
  generalize sackC (zeroC 3 f) v = R at *
  obtain ⟨⟨ty, fl, tsn, tag, win, ppid, st, ssn, outs, ins, gaps, dups, items, text⟩, q⟩ := R
  dsimp only [cellsC] at hsk
  have HSK := Lib.hid hsk
  clear hsk
  have HS0 := Lib.hid (rdS_new #[.int .i64 3, .int .i64 f, .int .u32 0, .int .u32 0, .int .u32 0, .int .u32 0, .int .u16 0, .int .u16 0, .int .u16 0, .int .u16 0, .slice none 0 0, .slice none 0 0, .slice none 0 0, .string ⟨#[]⟩] #[.int .i64 0, .int .i64 0, .int .u32 0, .int .u32 0, .int .u32 0, .int .u32 0, .int .u16 0, .int .u16 0, .int .u16 0, .int .u16 0, .slice none 0 0, .slice none 0 0, .slice none 0 0, .string ⟨#[]⟩] w)
  go_enter Tryz.func61, Tryz.ntmps61
  go_wp2_with (first
    | (refine wpList_load_row rfl 74 (.tmp 2) rfl w.heap.size rfl 74 #[.int .i64 3, .int .i64 f, .int .u32 0, .int .u32 0, .int .u32 0, .int .u32 0, .int .u16 0, .int .u16 0, .int .u16 0, .int .u16 0, .slice none 0 0, .slice none 0 0, .slice none 0 0, .string ⟨#[]⟩] (0, 0) _ HS0.out.own Tryz.underlying74 rfl HRS.out ?_))
  refine (HSK.out _).mono ?_
  rintro _ w1 ⟨G, D, rfl, rfl, hg, hd, hb1⟩
  obtain ⟨A1, k1, rfl, -⟩ := hg.slice
  obtain ⟨A2, k2, rfl, -⟩ := hd.slice
  have HSE := Lib.hid (HS0.out.later hb1)
  have hsz := HS0.out.size
  have HONE := Lib.hid (show (#[.int .i64 ty, .int .i64 fl, .int .u32 (tsn : Int), .int .u32 (tag : Int), .int .u32 (win : Int), .int .u32 (ppid : Int), .int .u16 (st : Int), .int .u16 (ssn : Int), .int .u16 (outs : Int), .int .u16 (ins : Int), .slice A1 gaps.length k1, .slice A2 dups.length k2, .slice none 0 0, .string text] : Array Value).all (·.oneCell') = true from by simp [Value.oneCell'])
  have HG := Lib.hid ((hg.base hsz).row9 (b := w.heap.size + 1) (by omega) #[.int .i64 ty, .int .i64 fl, .int .u32 (tsn : Int), .int .u32 (tag : Int), .int .u32 (win : Int), .int .u32 (ppid : Int), .int .u16 (st : Int), .int .u16 (ssn : Int), .int .u16 (outs : Int), .int .u16 (ins : Int), .slice A1 gaps.length k1, .slice A2 dups.length k2, .slice none 0 0, .string text])
  have HD := Lib.hid ((hd.base hsz).row9 (b := w.heap.size + 1) (by omega) #[.int .i64 ty, .int .i64 fl, .int .u32 (tsn : Int), .int .u32 (tag : Int), .int .u32 (win : Int), .int .u32 (ppid : Int), .int .u16 (st : Int), .int .u16 (ssn : Int), .int .u16 (outs : Int), .int .u16 (ins : Int), .slice A1 gaps.length k1, .slice A2 dups.length k2, .slice none 0 0, .string text])
  clear hg hd hb1 HSK
  go_wp2_with (refine wpList_store_row rfl 74 (.tmp 4) (.tmp 76) rfl (w.heap.size + 1) #[.int .i64 ty, .int .i64 fl, .int .u32 (tsn : Int), .int .u32 (tag : Int), .int .u32 (win : Int), .int .u32 (ppid : Int), .int .u16 (st : Int), .int .u16 (ssn : Int), .int .u16 (outs : Int), .int .u16 (ins : Int), .slice A1 gaps.length k1, .slice A2 dups.length k2, .slice none 0 0, .string text] rfl rfl 74 _ HSE.out.out HRS.out rfl HONE.out ?_)
  exact bodyPost_ret (v := .tuple #[.agg #[.int .i64 ty, .int .i64 fl, .int .u32 (tsn : Int), .int .u32 (tag : Int), .int .u32 (win : Int), .int .u32 (ppid : Int), .int .u16 (st : Int), .int .u16 (ssn : Int), .int .u16 (outs : Int), .int .u16 (ins : Int), .slice A1 gaps.length k1, .slice A2 dups.length k2, .slice none 0 0, .string text], .bool q]) (results_row1 Tryz.results61 _ _ (w.heap.size + 1) _ #[.int .i64 ty, .int .i64 fl, .int .u32 (tsn : Int), .int .u32 (tag : Int), .int .u32 (win : Int), .int .u32 (ppid : Int), .int .u16 (st : Int), .int .u16 (ssn : Int), .int .u16 (outs : Int), .int .u16 (ins : Int), .slice A1 gaps.length k1, .slice A2 dups.length k2, .slice none 0 0, .string text] _ _ (by rfl) (setRow_heap _ _ _ _ _ _ HSE.out.out) Tryz.underlying74 rfl HRS.out) rfl ⟨_, _, _, rfl, ⟨rowG_of_own HG.out, rowN_of_own HD.out, RowI.nil _⟩, fun j hj => (by
    rcases hj with hj | hj | hj
    · have := HG.out.place j hj; omega
    · have := HD.out.place j hj; omega
    · cases hj), below_setRow HSE.out.below (by omega) _⟩
theorem valQ_nil {c : Ck} {b : Bool} {w : World} (hg : c.gaps = []) (hd : c.dups = []) (hi : c.items = []) {e : Ending} {w' : World} (h : e = .returned (.tuple #[.agg (cellsC c (.slice none 0 0) (.slice none 0 0) (.slice none 0 0)), .bool b]) ∧ Below w.heap.size w w') : ValQ c b w e w' := by
  refine ⟨_, _, _, h.1, ⟨by rw [hg]; exact RowG.nil _, by rw [hd]; exact RowN.nil _, by rw [hi]; exact RowI.nil _⟩, fun j hj => ?_, h.2⟩
  rcases hj with hj | hj | hj <;> cases hj
theorem valQ_items {c : Ck} {b : Bool} {w : World} (hg : c.gaps = []) (hd : c.dups = []) {e : Ending} {w' : World} (h : ∃ it', e = .returned (.tuple #[.agg (cellsC c (.slice none 0 0) (.slice none 0 0) it'), .bool b]) ∧ OwnG w' w.heap.size 105 2 it' c.items.length (flatI c.items) ∧ Below w.heap.size w w') : ValQ c b w e w' := by
  obtain ⟨it', h1, h2, h3⟩ := h
  refine ⟨_, _, _, h1, ⟨by rw [hg]; exact RowG.nil _, by rw [hd]; exact RowN.nil _, rowI_of_own h2⟩, fun j hj => ?_, h3⟩
  rcases hj with hj | hj | hj
  · cases hj
  · cases hj
  · exact h2.place j hj
/-- The document's reader of a chunk's value. -/
theorem rread_any (k f : Int) (v : ByteArray) (hv : v.size ≤ 1000000) (w : World) :
    Calls Tryz.prog 61 #[.agg (cellsC (zeroC k f) (.slice none 0 0) (.slice none 0 0) (.slice none 0 0)), .string v] w (ValQ (readC (zeroC k f) v).1 (readC (zeroC k f) v).2 w) := by
  have hp := Parts.zero w k f
  unfold readC
  by_cases h0 : k = 0
  · rw [if_pos (show (zeroC k f).type = 0 from h0)]
    by_cases hs : v.size < 12
    · rw [if_pos hs]
      exact (rread_0_no _ _ _ _ v hv w hp ⟨h0, hs⟩).mono fun e w' h => valQ_nil rfl rfl rfl h
    · rw [if_neg hs]
      exact (rread_0 _ _ _ _ v hv w hp ⟨h0, by omega⟩).mono fun e w' h => valQ_nil rfl rfl rfl h
  rw [if_neg (show ¬ (zeroC k f).type = 0 from h0)]
  by_cases h1 : k = 1 ∨ k = 2
  · rw [if_pos (show (zeroC k f).type = 1 ∨ (zeroC k f).type = 2 from h1)]
    by_cases hs : v.size < 16
    · rw [if_pos hs]
      exact (rread_1_no _ _ _ _ v hv w hp h1 hs).mono fun e w' h => valQ_nil rfl rfl rfl h
    · rw [if_neg hs]
      exact (rread_1 k f v hv w h1 (by omega)).mono fun e w' h => valQ_items rfl rfl h
  rw [if_neg (show ¬ ((zeroC k f).type = 1 ∨ (zeroC k f).type = 2) from h1)]
  by_cases h3 : k = 3
  · subst h3
    rw [if_pos (show (zeroC 3 f).type = 3 from rfl)]
    exact rread_3 f v hv w
  rw [if_neg (show ¬ (zeroC k f).type = 3 from h3)]
  by_cases h4 : k = 4 ∨ k = 5 ∨ k = 6 ∨ k = 9
  · rw [if_pos (show (zeroC k f).type = 4 ∨ (zeroC k f).type = 5 ∨ (zeroC k f).type = 6 ∨ (zeroC k f).type = 9 from h4)]
    exact (rread_items _ _ _ _ v hv w hp h4).mono fun e w' h => valQ_items rfl rfl h
  rw [if_neg (show ¬ ((zeroC k f).type = 4 ∨ (zeroC k f).type = 5 ∨ (zeroC k f).type = 6 ∨ (zeroC k f).type = 9) from h4)]
  by_cases h7 : k = 7
  · rw [if_pos (show (zeroC k f).type = 7 from h7)]
    by_cases hs : v.size = 4
    · rw [if_neg (by omega)]
      exact (rread_7 _ _ _ _ v hv w hp ⟨h7, hs⟩).mono fun e w' h => valQ_nil rfl rfl rfl h
    · rw [if_pos hs]
      exact (rread_7_no _ _ _ _ v hv w hp ⟨h7, hs⟩).mono fun e w' h => valQ_nil rfl rfl rfl h
  rw [if_neg (show ¬ (zeroC k f).type = 7 from h7)]
  exact (rread_else _ _ _ _ v hv w hp (by show k ≠ 0 ∧ _; refine ⟨h0, ?_⟩; show k ≠ 1 ∧ k ≠ 2 ∧ k ≠ 3 ∧ k ≠ 4 ∧ k ≠ 5 ∧ k ≠ 6 ∧ k ≠ 9 ∧ k ≠ 7; omega)).mono fun e w' h => valQ_nil rfl rfl rfl h
end Go.Proofs.YtlbaockipeojhaaGreat
end
