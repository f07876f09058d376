/-
  Package sent: Ack: contract.
-/
import Derived.Test.YtpgdofhnpiefjaaSk
namespace Go.Proofs.Ytpgdofhnpiefjaa
open Go.RowKit
set_option linter.unusedVariables false
set_option linter.unusedSimpArgs false
set_option maxRecDepth 100000

theorem retSRB {fn : Func} {p q u : Tmp} (h : fn.results = #[.cell p 27, .cell q 42, .tmp u]) {tmps : Array Value} {w : World} {g g' : Nat} {cs ds : Array Value} {v : Value} (hz : cs.size = 2) (hz' : ds.size = 7) (hp : tmps.getD p undef = .pointer (some ⟨g, 0, none⟩)) (hq : tmps.getD q undef = .pointer (some ⟨g', 0, none⟩)) (hu : tmps.getD u undef = v) (hg : Bx w g 27 cs) (hg' : Bx w g' 42 ds) : (results fn tmps).run Try.prog w = .ok (.tuple #[.agg cs, .agg ds, v]) w := by
  have hp' : tmps[p]?.getD undef = .pointer (some ⟨g, 0, none⟩) := by simpa using hp
  have hq' : tmps[q]?.getD undef = .pointer (some ⟨g', 0, none⟩) := by simpa using hq
  have hu' : tmps[u]?.getD undef = v := by simpa using hu
  simp [results, h, hp', hq', hu', asAddr, run_loadVar_row w g 27 27 cs (0, 0) _ hg Try.underlying27 rfl (by rw [hz]; exact infoS), run_loadVar_row w g' 42 42 ds (0, 0) _ hg' Try.underlying42 rfl (by rw [hz']; exact infoR)]
theorem dist_near (c cum : UInt32) (h : dist c cum ≤ 1000) : dist32 (c.toNat : Int) (cum.toNat : Int) = (dist c cum : Int) := by
  rw [dist_nat] at *
  unfold dist32
  have := c.toNat_lt; have := cum.toNat_lt
  omega
theorem cellsR_one (a b : Int) (p q : Bool) (A A' A'' : Option Addr) (n k n' k' n'' k'' : Nat) : (#[Value.int .i64 a, .int .i64 b, .bool p, .bool q, .slice A n k, .slice A' n' k', .slice A'' n'' k''] : Array Value).all (·.oneCell') = true := by simp [Value.oneCell']
def r0L (l : List Pc) (k : Nat) : Rs := ⟨0, underL (-1) l, decide (0 < k), false, [], [], []⟩
def goneTo (now : Int) (l : List Pc) (k j : Nat) : Rs := (l.take j).foldl (stepD now) (r0L l k)
theorem goneTo_succ (now : Int) (l : List Pc) (k j : Nat) (h : j < l.length) : goneTo now l k (j + 1) = stepD now (goneTo now l k j) l[j] := foldl_take _ _ l j h
/-- What stands behind j pieces that are gone. -/
structure GnI (l : List Pc) (k j : Nat) (r : Rs) : Prop where
  lo : 0 ≤ r.by'
  hi : r.by' ≤ 1500 * (j : Int)
  tk : r.tk.length ≤ j
  dn : r.dn.length = j
  out : r.out = underL (-1) l
  mo : r.mo = decide (0 < k)
  fa : r.fa = []
theorem GnI.step {l : List Pc} {k j : Nat} {r : Rs} (h : GnI l k j r) (now : Int) {x : Pc} (hz : 1 ≤ x.sz ∧ x.sz ≤ 1500) : GnI l k (j + 1) (stepD now r x) := by
  obtain ⟨t1, t2, t3, t4, t5, t6, t7, _⟩ := tellR_frame now { r with dn := r.dn ++ [x.ts] } x
  have h1 := h.lo; have h2 := h.hi; have h3 := h.tk; have h4 := h.dn
  unfold stepD
  split
  · exact ⟨h1, by show r.by' ≤ _; omega, by show r.tk.length ≤ _; omega, by show (r.dn ++ [x.ts]).length = _; simp [h4], h.out, h.mo, h.fa⟩
  · refine ⟨?_, ?_, ?_, ?_, t1.trans h.out, t2.trans h.mo, t4.trans h.fa⟩
    · rw [t5]; show 0 ≤ r.by' + _; omega
    · rw [t5]; show r.by' + _ ≤ _; omega
    · have t7' : (tellR now { r with dn := r.dn ++ [x.ts] } x).tk.length ≤ r.tk.length + 1 := t7
      omega
    · rw [t3]; show (r.dn ++ [x.ts]).length = _; simp [h4]
theorem goneTo_I (now : Int) {l : List Pc} (hok : ∀ x ∈ l, OkPc x) (k : Nat) : ∀ j, j ≤ l.length → GnI l k j (goneTo now l k j)
  | 0, _ => ⟨by simp [goneTo, r0L], by simp [goneTo, r0L], by simp [goneTo, r0L], by simp [goneTo, r0L], rfl, rfl, rfl⟩
  | j + 1, h => by
    rw [goneTo_succ now l k j (by omega)]
    have hx := hok _ (List.getElem_mem (show j < l.length by omega))
    exact (goneTo_I now hok k j (by omega)).step now ⟨hx.z1, hx.z2⟩
def ackM (now : Int) (l : List Pc) (gs : List (Nat × Nat)) (k : Nat) : Mk := mkTo gs now (goneTo now l k k) (l.drop k) (l.length - k)
def ackL2 (now : Int) (l : List Pc) (gs : List (Nat × Nat)) (k : Nat) : List Pc := mixL missX (ackM now l gs k).l (ackM now l gs k).a
def ackF (now : Int) (l : List Pc) (gs : List (Nat × Nat)) (k : Nat) : List UInt32 := missN ((ackM now l gs k).l.take (ackM now l gs k).a)
/-- What Ack hands back where nothing may be told. -/
theorem ack_no (c cum : UInt32) (l : List Pc) (gs : List (Nat × Nat)) (now : Int) (hl : l.length ≤ 64) (hgl : gs.length ≤ 1000) (hsm : SmallG gs) (v vg : Value) (w : World) (h : RowP w v l) (hvg : RowGp w vg gs) (hmay : mayB c l cum gs = false) :
    Calls Try.prog 9 #[.agg #[.int .u32 (c.toNat : Int), v], .int .u32 (cum.toNat : Int), vg, .int .i64 now] w fun e w' => ∃ A k, e = .returned (.tuple #[.agg #[.int .u32 (c.toNat : Int), .slice A l.length k], .agg #[.int .i64 0, .int .i64 0, .bool false, .bool false, .slice none 0 0, .slice none 0 0, .slice none 0 0], .bool false]) ∧ RowP w' (.slice A l.length k) l ∧ Fresh w.heap.size (.slice A l.length k) ∧ Below w.heap.size w w' := by
  obtain ⟨W, hW, HA, HZ, HR, HB, hs⟩ := three_open w 27 27 42 #[.int .u32 (c.toNat : Int), v] #[.int .u32 0, .slice none 0 0] #[.int .i64 0, .int .i64 0, .bool false, .bool false, .slice none 0 0, .slice none 0 0, .slice none 0 0]
  have HM := Lib.hid (may_any c cum l gs hl hgl hsm v vg W (h.below HB.out) (hvg.below HB.out))
  rw [hmay] at HM
  have HCP := Lib.hid (fun W h => copied_any c l (by omega) v W h)
  have HV := Lib.hid (h.below HB.out)
  obtain ⟨A, cap, rfl, _, hmx, _⟩ := id h
  clear h hvg hmay
  go_enter Try.func9, Try.ntmps9
  go_wp2_with (first
    | ((with_reducible refine gate9 ?_); refine ldB rfl rfl rfl HA.out Try.underlying27 rfl infoS ?_)
    | (go_at_call 18; (with_reducible refine HM.out.mono ?_); rintro e w1 ⟨rfl, hb⟩; replace HA := Lib.hid (HA.out.later hb); replace HZ := Lib.hid (HZ.out.later hb); replace HR := Lib.hid (HR.out.later hb); replace HB := Lib.hid (HB.out.trans (hb.mono HB.out.size)); replace HV := Lib.hid (HV.out.below hb); have hs1 : w.heap.size + 3 ≤ w1.heap.size := (by have := hb.size; omega); clear hb)
    | (go_at_call 19; (with_reducible refine (HCP.out _ HV.out).mono ?_); rintro e w2 ⟨A2, k2, rfl, hown, hb⟩; replace HZ := Lib.hid (HZ.out.later hb); replace HR := Lib.hid (HR.out.later hb); replace HB := Lib.hid (HB.out.trans (hb.mono HB.out.size)); have HO := Lib.hid (OwnV.of_own (own_base hown hs1)); clear hb hown)
    | ((with_reducible refine gate9 ?_); refine stB (ty := 27) #[.int .u32 (c.toNat : Int), .slice A2 l.length k2] rfl rfl rfl rfl HZ.out infoS rfl (cellsS_one _ _ _ _) ?_; intro w9 ht hg; replace HR := Lib.hid (HR.out.kept hg (by omega)); replace HO := Lib.hid (HO.out.grown hg (fun k e _ => by intro e2; cases e2; have := HO.out.base _ e; simp at this; try omega)); replace HB := Lib.hid (below_of_grown1 HB.out hg HB.out.size (by omega)); replace HZ := Lib.hid ht; clear ht hg)
    | ((with_reducible refine gate9 ?_); refine stB (ty := 42) #[.int .i64 0, .int .i64 0, .bool false, .bool false, .slice none 0 0, .slice none 0 0, .slice none 0 0] rfl rfl rfl rfl HR.out infoR rfl (cellsR_one _ _ _ _ _ _ _ _ _ _ _ _ _) ?_; intro w9 ht hg; replace HZ := Lib.hid (HZ.out.kept hg (by omega)); replace HO := Lib.hid (HO.out.grown hg (fun k e _ => by intro e2; cases e2; have := HO.out.base _ e; simp at this; try omega)); replace HB := Lib.hid (below_of_grown1 HB.out hg HB.out.size (by omega)); replace HR := Lib.hid ht; clear ht hg))
  exact bodyPost_ret (retSRB rfl rfl rfl rfl rfl rfl HZ.out HR.out) rfl ⟨A2, k2, rfl, HO.out.row, HO.out.fresh.less (by omega), HB.out⟩
end Go.Proofs.Ytpgdofhnpiefjaa
