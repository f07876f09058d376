/-
  Package ip: whether a header is right; the document's answer; what the statements ask of a header: contracts.
-/
import Derived.Test.YtgodhbliamlclaaDoorTwo
import Derived.Laws.Rows
import Derived.Laws.ResultCell
namespace Go.Proofs.YtgodhbliamlclaaDoor
open Go.RowKit
set_option linter.unusedVariables false

theorem rsize5 : (Tryd.prog.info? 30).map (·.size) = some 5 := by kernel_rfl
theorem hsize5 : (Tryd.prog.info? 23).map (·.size) = some 5 := by kernel_rfl
theorem results_row2 {P : Program} {fn : Func} {p u v : Tmp} {ty : TypeId} (h : fn.results = #[.cell p ty, .tmp u, .tmp v]) (tmps : Array Value) (w : World) (g : Nat) (t : TypeId) (cs : Array Value) (fr : Nat × Nat) (d : TypeDesc)
    (hp : tmps.getD p undef = .pointer (some ⟨g, 0, none⟩)) (hg : w.heap[g]? = some (.cells cs t fr))
    (hu : P.underlying ty = some d) (hd : (match d with | .struct _ | .array _ _ => true | _ => false) = true) (hi : (P.info? ty).map (·.size) = some cs.size) :
    (results fn tmps).run P w = .ok (.tuple #[.agg cs, tmps.getD u undef, tmps.getD v undef]) w := by
  have hp' : tmps[p]?.getD undef = .pointer (some ⟨g, 0, none⟩) := by simpa using hp
  simp [results, h, hp', asAddr, run_loadVar_row w g t ty cs fr d hg hu hd hi]
/-- Addresses of so many bytes, Hops of one, a Mark of at most so much. -/
def wB (hops mark : Int) (f t : Nat) (a : Nat) (m : Int) : Bool := decide (f = a ∧ t = a ∧ 0 ≤ hops ∧ hops ≤ 255 ∧ 0 ≤ mark ∧ mark ≤ m)
def rightB (ver hops mark : Int) (f t : Nat) : Bool := if ver = 4 then wB hops mark f t 4 65535 else if ver = 6 then wB hops mark f t 16 0 else false
theorem wCases (hops mark : Int) (f t a : Nat) (m : Int) : (wB hops mark f t a m = true ∧ ((f : Int) == (a : Int)) = true ∧ ((t : Int) == (a : Int)) = true ∧ 0 ≤ hops ∧ hops ≤ 255 ∧ 0 ≤ mark ∧ mark ≤ m) ∨
    (wB hops mark f t a m = false ∧ ((f : Int) == (a : Int)) = false) ∨
    (wB hops mark f t a m = false ∧ ((f : Int) == (a : Int)) = true ∧ ((t : Int) == (a : Int)) = false) ∨
    (wB hops mark f t a m = false ∧ ((f : Int) == (a : Int)) = true ∧ ((t : Int) == (a : Int)) = true ∧ ¬ 0 ≤ hops) ∨
    (wB hops mark f t a m = false ∧ ((f : Int) == (a : Int)) = true ∧ ((t : Int) == (a : Int)) = true ∧ 0 ≤ hops ∧ ¬ hops ≤ 255) ∨
    (wB hops mark f t a m = false ∧ ((f : Int) == (a : Int)) = true ∧ ((t : Int) == (a : Int)) = true ∧ 0 ≤ hops ∧ hops ≤ 255 ∧ ¬ 0 ≤ mark) ∨
    (wB hops mark f t a m = false ∧ ((f : Int) == (a : Int)) = true ∧ ((t : Int) == (a : Int)) = true ∧ 0 ≤ hops ∧ hops ≤ 255 ∧ 0 ≤ mark ∧ ¬ mark ≤ m) := by
  unfold wB
  simp only [decide_eq_true_eq, decide_eq_false_iff_not, beq_iff_eq, beq_eq_false_iff_ne]
  omega

set_option maxHeartbeats 2000000 in
theorem within4_any (ver hops mark : Int) (f t : ByteArray) (w : World) :
    Calls Tryd.prog 22 #[.agg #[.int .i64 ver, .int .i64 hops, .int .i64 mark, .string f, .string t], .int .i64 4, .int .i64 65535] w fun e w' => e = .returned (.bool (wB hops mark f.size t.size 4 65535)) ∧ Below w.heap.size w w' := by
  rcases wCases hops mark f.size t.size 4 65535 with ⟨hb, c1, c2, c3, c4, c5, c6⟩ | ⟨hb, c1⟩ | ⟨hb, c1, c2⟩ | ⟨hb, c1, c2, c3⟩ | ⟨hb, c1, c2, c3, c4⟩ | ⟨hb, c1, c2, c3, c4, c5⟩ | ⟨hb, c1, c2, c3, c4, c5, c6⟩
  all_goals
    rw [hb]
    clear hb
    rw [show ((4 : Nat) : Int) = 4 from rfl] at *
    go_enter Tryd.func22, Tryd.ntmps22
    go_wp2
    go_ret
    exact ⟨rfl, (Below.refl _ _).alloc (Nat.le_refl _) _⟩
set_option maxHeartbeats 2000000 in
theorem within6_any (ver hops mark : Int) (f t : ByteArray) (w : World) :
    Calls Tryd.prog 22 #[.agg #[.int .i64 ver, .int .i64 hops, .int .i64 mark, .string f, .string t], .int .i64 16, .int .i64 0] w fun e w' => e = .returned (.bool (wB hops mark f.size t.size 16 0)) ∧ Below w.heap.size w w' := by
  rcases wCases hops mark f.size t.size 16 0 with ⟨hb, c1, c2, c3, c4, c5, c6⟩ | ⟨hb, c1⟩ | ⟨hb, c1, c2⟩ | ⟨hb, c1, c2, c3⟩ | ⟨hb, c1, c2, c3, c4⟩ | ⟨hb, c1, c2, c3, c4, c5⟩ | ⟨hb, c1, c2, c3, c4, c5, c6⟩
  all_goals
    rw [hb]
    clear hb
    rw [show ((16 : Nat) : Int) = 16 from rfl] at *
    go_enter Tryd.func22, Tryd.ntmps22
    go_wp2
    go_ret
    exact ⟨rfl, (Below.refl _ _).alloc (Nat.le_refl _) _⟩
theorem verCases (ver : Int) : ver = 4 ∨ ver = 6 ∨ ((ver == 4) = false ∧ (ver == 6) = false) := by
  simp only [beq_eq_false_iff_ne]
  omega
set_option maxHeartbeats 2000000 in
theorem right_any (ver hops mark : Int) (f t : ByteArray) (w : World) :
    Calls Tryd.prog 12 #[.agg #[.int .i64 ver, .int .i64 hops, .int .i64 mark, .string f, .string t]] w fun e w' => e = .returned (.bool (rightB ver hops mark f.size t.size)) ∧ Below w.heap.size w w' := by
  have HB := Lib.hid (Below.refl w.heap.size w)
  have H4 := Lib.hid (fun W => within4_any ver hops mark f t W)
  have H6 := Lib.hid (fun W => within6_any ver hops mark f t W)
  have HR := Lib.hid (show rightB ver hops mark f.size t.size = if ver = 4 then wB hops mark f.size t.size 4 65535 else if ver = 6 then wB hops mark f.size t.size 16 0 else false from rfl)
  generalize rightB ver hops mark f.size t.size = r at *
  generalize wB hops mark f.size t.size 4 65535 = r4 at *
  generalize wB hops mark f.size t.size 16 0 = r6 at *
  rcases verCases ver with hv | hv | ⟨hv1, hv2⟩
  · obtain rfl : r = r4 := by rw [HR.out, if_pos hv]
    subst hv
    go_enter Tryd.func12, Tryd.ntmps12
    go_wp2_with (go_at_call 22; ((with_reducible refine (H4.out _).mono ?_); rintro e w1 ⟨rfl, hb1⟩); replace HB := Lib.hid (((Below.refl w.heap.size w).alloc (Nat.le_refl _) _).trans (hb1.mono (by simp))); clear hb1)
    go_ret
    exact ⟨rfl, HB.out⟩
  · obtain rfl : r = r6 := by rw [HR.out, if_neg (by omega), if_pos hv]
    subst hv
    go_enter Tryd.func12, Tryd.ntmps12
    go_wp2_with (go_at_call 22; ((with_reducible refine (H6.out _).mono ?_); rintro e w1 ⟨rfl, hb1⟩); replace HB := Lib.hid (((Below.refl w.heap.size w).alloc (Nat.le_refl _) _).trans (hb1.mono (by simp))); clear hb1)
    go_ret
    exact ⟨rfl, HB.out⟩
  · obtain rfl : r = false := by
      simp only [beq_eq_false_iff_ne] at hv1 hv2
      rw [HR.out, if_neg hv1, if_neg hv2]
    go_enter Tryd.func12, Tryd.ntmps12
    go_wp2
    go_ret
    exact ⟨rfl, (Below.refl _ _).alloc (Nat.le_refl _) _⟩
set_option maxHeartbeats 4000000 in
theorem rright_any (ver hops mark : Int) (f t : ByteArray) (w : World) :
    Calls Tryd.prog 13 #[.agg #[.int .i64 ver, .int .i64 hops, .int .i64 mark, .string f, .string t]] w fun e w' => e = .returned (.bool (rightB ver hops mark f.size t.size)) ∧ Below w.heap.size w w' := by
  rcases verCases ver with hv | hv | ⟨hv1, hv2⟩
  · rw [show rightB ver hops mark f.size t.size = wB hops mark f.size t.size 4 65535 by unfold rightB; rw [if_pos hv]]
    rcases wCases hops mark f.size t.size 4 65535 with ⟨hb, c1, c2, c3, c4, c5, c6⟩ | ⟨hb, c1⟩ | ⟨hb, c1, c2⟩ | ⟨hb, c1, c2, c3⟩ | ⟨hb, c1, c2, c3, c4⟩ | ⟨hb, c1, c2, c3, c4, c5⟩ | ⟨hb, c1, c2, c3, c4, c5, c6⟩
    all_goals
      rw [hb]
      clear hb
      subst hv
      rw [show ((4 : Nat) : Int) = 4 from rfl] at *
      go_enter Tryd.func13, Tryd.ntmps13
      go_wp2
      go_ret
      exact ⟨rfl, (Below.refl _ _).alloc (Nat.le_refl _) _⟩
  · rw [show rightB ver hops mark f.size t.size = wB hops mark f.size t.size 16 0 by unfold rightB; rw [if_neg (by omega), if_pos hv]]
    rcases wCases hops mark f.size t.size 16 0 with ⟨hb, c1, c2, c3, c4, c5, c6⟩ | ⟨hb, c1⟩ | ⟨hb, c1, c2⟩ | ⟨hb, c1, c2, c3⟩ | ⟨hb, c1, c2, c3, c4⟩ | ⟨hb, c1, c2, c3, c4, c5⟩ | ⟨hb, c1, c2, c3, c4, c5, c6⟩
    all_goals
      rw [hb]
      clear hb
      subst hv
      rw [show ((16 : Nat) : Int) = 16 from rfl] at *
      go_enter Tryd.func13, Tryd.ntmps13
      go_wp2
      go_ret
      exact ⟨rfl, (Below.refl _ _).alloc (Nat.le_refl _) _⟩
  · rw [show rightB ver hops mark f.size t.size = false by
      simp only [beq_eq_false_iff_ne] at hv1 hv2
      unfold rightB; rw [if_neg hv1, if_neg hv2]]
    go_enter Tryd.func13, Tryd.ntmps13
    go_wp2
    go_ret
    exact ⟨rfl, (Below.refl _ _).alloc (Nat.le_refl _) _⟩
/-- What can be gone through. -/
def shortB (f t s : Nat) : Bool := decide (f ≤ 100 ∧ t ≤ 100 ∧ s ≤ 2000)
theorem shortCases (f t s : Nat) : (shortB f t s = true ∧ (f : Int) ≤ 100 ∧ (t : Int) ≤ 100 ∧ (s : Int) ≤ 2000) ∨ (shortB f t s = false ∧ ¬ (f : Int) ≤ 100) ∨ (shortB f t s = false ∧ (f : Int) ≤ 100 ∧ ¬ (t : Int) ≤ 100) ∨ (shortB f t s = false ∧ (f : Int) ≤ 100 ∧ (t : Int) ≤ 100 ∧ ¬ (s : Int) ≤ 2000) := by
  unfold shortB
  simp only [decide_eq_true_eq, decide_eq_false_iff_not]
  omega
set_option maxHeartbeats 2000000 in
theorem short_any (ver hops mark : Int) (f t s : ByteArray) (w : World) :
    Calls Tryd.prog 8 #[.agg #[.int .i64 ver, .int .i64 hops, .int .i64 mark, .string f, .string t], .string s] w fun e w' => e = .returned (.bool (shortB f.size t.size s.size)) ∧ Below w.heap.size w w' := by
  rcases shortCases f.size t.size s.size with ⟨hb, c1, c2, c3⟩ | ⟨hb, c1⟩ | ⟨hb, c1, c2⟩ | ⟨hb, c1, c2, c3⟩
  all_goals
    rw [hb]
    clear hb
    go_enter Tryd.func8, Tryd.ntmps8
    go_wp2
    go_ret
    exact ⟨rfl, (Below.refl _ _).alloc (Nat.le_refl _) _⟩
set_option maxHeartbeats 2000000 in
theorem as_any (ver hops mark : Int) (f t : ByteArray) (w : World) :
    Calls Tryd.prog 11 #[.agg #[.int .i64 ver, .int .i64 hops, .int .i64 mark, .string f, .string t]] w fun e w' => e = .returned (.agg #[.int .i64 ver, .int .i64 hops, .int .i64 mark, .string f, .string t]) ∧ Below w.heap.size w w' := by
  go_enter Tryd.func11, Tryd.ntmps11
  go_wp2
  refine bodyPost_ret (v := .agg #[.int .i64 ver, .int .i64 hops, .int .i64 mark, .string f, .string t]) (results_cell_row (P := Tryd.prog) rfl _ _ (w.heap.size + 1) 30 #[.int .i64 ver, .int .i64 hops, .int .i64 mark, .string f, .string t] (0, 0) _ rfl (heap_new_at _ _ (by simp)) Tryd.underlying30 rfl rsize5) rfl ⟨rfl, ?_⟩
  exact ((Below.refl _ _).alloc (Nat.le_refl _) _).alloc (by simp) _
end Go.Proofs.YtgodhbliamlclaaDoor
