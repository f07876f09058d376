/-
  Numbers in lists, gots as they lie: contracts.
-/
import Derived.Test.YtfdnphkdpmlbnaaScal
import Derived.Test.YtfdnphkdpmlbnaaGp
import Derived.Test.YtfdnphkdpmlbnaaBx
import Derived.Test.YtfdnphkdpmlbnaaOwn
import Derived.Lib.SliceRun
import Derived.Deep.RegionHeld3
import Derived.StillTailTactics
namespace Go.Proofs.Ytfdnphkdpmlbnaa
open Go.RowKit
set_option linter.unusedVariables false
set_option linter.unusedSimpArgs false
set_option maxRecDepth 100000

theorem ramong_any (l : List UInt32) (hl : l.length ≤ 1000000) (v : Value) (n : UInt32) (w : World) (hv : RowE enc32 w v l) : Calls Try.prog 36 #[v, .int .u32 (n.toNat : Int)] w fun e w' => e = .returned (.bool (decide (n ∈ l))) ∧ w' = w := by
  obtain ⟨r, hr⟩ : ∃ r, decide (n ∈ l) = r := ⟨_, rfl⟩
  rw [hr]
  have HR := Lib.hid hr
  clear hr
  obtain ⟨A, cap, rfl, hcap, hmax, hcells⟩ := hv
  have hlN : (l.length : Int) ≤ 1000000 := by omega
  have HC := Lib.hid hcells
  clear hcells
  go_enter Try.func36, Try.ntmps36
  go_wp2_with fail
  go_loopw [5] (fun i wr => ∃ k : Nat, k ≤ l.length ∧ i = .int .i64 k ∧ Hid (∀ j, j < k → l[j]! ≠ n) ∧ Hid (wr = w))
    (fun i _ => l.length - (intOf i).toNat)
  case atStart => exact ⟨0, Nat.zero_le _, rfl, Lib.hid (fun j hj => absurd hj (by omega)), Lib.hid rfl⟩
  case round =>
    obtain ⟨k, hk, rfl, HN, HW⟩ := hrel
    have hwr := HW.out
    subst hwr
    by_cases hlt : k < l.length
    · obtain ⟨b, off, rfl, hb, hc⟩ := HC.out (by omega)
      have hck : wr.cell? ⟨b, off + k, none⟩ = some (.int .u32 (l[k]!.toNat : Int)) := hc k hlt
      have q4 : (0 : Int) ≤ (k : Int) := by omega
      have q5 : (k : Int) < (l.length : Int) := by omega
      clear hc HW
      by_cases he : l[k]! = n
      · have HT : Hid (r = true) := Lib.hid (HR.out.symm.trans (decide_eq_true (by rw [← he, getElem!_pos l k hlt]; exact List.getElem_mem hlt)))
        rw [he] at hck
        clear he
        go_wp2_with fail
        go_ret
        exact ⟨ret_bool HT.out.symm, rfl⟩
      · have HN2 : Hid (∀ j, j < k + 1 → l[j]! ≠ n) := Lib.hid (fun j hj => by
          rcases Nat.lt_succ_iff_lt_or_eq.1 hj with h | rfl
          · exact HN.out j h
          · exact he)
        have hq : ((l[k]!.toNat : Int) == (n.toNat : Int)) = false := by rw [beq_eq_false_iff_ne]; exact fun h => he (UInt32.toNat_inj.1 (by omega))
        generalize l[k]! = x at *
        clear he
        go_wp2_with fail
        go_roundw
        case rel => exact ⟨k + 1, by omega, by go_num, HN2, by first | exact Lib.hid rfl | exact Lib.hid trivial⟩
        case measure => simp [intOf]; omega
    · obtain rfl : k = l.length := by omega
      have HT : Hid (r = false) := Lib.hid (HR.out.symm.trans (decide_eq_false (fun hm => by
        obtain ⟨j, hj, e⟩ := List.getElem_of_mem hm
        exact HN.out j hj (by rw [getElem!_pos l j hj]; exact e))))
      go_wp2_with fail
      go_ret
      exact ⟨ret_bool HT.out.symm, rfl⟩
theorem among_any (l : List UInt32) (hl : l.length ≤ 1000000) (v : Value) (n : UInt32) (w : World) (hv : RowE enc32 w v l) : Calls Try.prog 30 #[v, .int .u32 (n.toNat : Int)] w fun e w' => e = .returned (.bool (decide (n ∈ l))) ∧ w' = w := by
  obtain ⟨r, hr⟩ : ∃ r, decide (n ∈ l) = r := ⟨_, rfl⟩
  rw [hr]
  have HR := Lib.hid hr
  clear hr
  obtain ⟨A, cap, rfl, hcap, hmax, hcells⟩ := hv
  have hlN : (l.length : Int) ≤ 1000000 := by omega
  have HC := Lib.hid hcells
  clear hcells
  go_enter Try.func30, Try.ntmps30
  go_wp2_with fail
  go_loopw [5] (fun i wr => ∃ k : Nat, k ≤ l.length ∧ i = .int .i64 k ∧ Hid (∀ j, j < k → l[j]! ≠ n) ∧ Hid (wr = w))
    (fun i _ => l.length - (intOf i).toNat)
  case atStart => exact ⟨0, Nat.zero_le _, rfl, Lib.hid (fun j hj => absurd hj (by omega)), Lib.hid rfl⟩
  case round =>
    obtain ⟨k, hk, rfl, HN, HW⟩ := hrel
    have hwr := HW.out
    subst hwr
    by_cases hlt : k < l.length
    · obtain ⟨b, off, rfl, hb, hc⟩ := HC.out (by omega)
      have hck : wr.cell? ⟨b, off + k, none⟩ = some (.int .u32 (l[k]!.toNat : Int)) := hc k hlt
      have q4 : (0 : Int) ≤ (k : Int) := by omega
      have q5 : (k : Int) < (l.length : Int) := by omega
      clear hc HW
      by_cases he : l[k]! = n
      · have HT : Hid (r = true) := Lib.hid (HR.out.symm.trans (decide_eq_true (by rw [← he, getElem!_pos l k hlt]; exact List.getElem_mem hlt)))
        rw [he] at hck
        clear he
        go_wp2_with fail
        go_ret
        exact ⟨ret_bool HT.out.symm, rfl⟩
      · have HN2 : Hid (∀ j, j < k + 1 → l[j]! ≠ n) := Lib.hid (fun j hj => by
          rcases Nat.lt_succ_iff_lt_or_eq.1 hj with h | rfl
          · exact HN.out j h
          · exact he)
        have hq : ((l[k]!.toNat : Int) == (n.toNat : Int)) = false := by rw [beq_eq_false_iff_ne]; exact fun h => he (UInt32.toNat_inj.1 (by omega))
        generalize l[k]! = x at *
        clear he
        go_wp2_with fail
        go_roundw
        case rel => exact ⟨k + 1, by omega, by go_num, HN2, by first | exact Lib.hid rfl | exact Lib.hid trivial⟩
        case measure => simp [intOf]; omega
    · obtain rfl : k = l.length := by omega
      have HT : Hid (r = false) := Lib.hid (HR.out.symm.trans (decide_eq_false (fun hm => by
        obtain ⟨j, hj, e⟩ := List.getElem_of_mem hm
        exact HN.out j hj (by rw [getElem!_pos l j hj]; exact e))))
      go_wp2_with fail
      go_ret
      exact ⟨ret_bool HT.out.symm, rfl⟩
theorem index_any (l : List UInt32) (hl : l.length ≤ 1000000) (v : Value) (n : UInt32) (w : World) (hv : RowE enc32 w v l) : Calls Try.prog 45 #[v, .int .u32 (n.toNat : Int)] w fun e w' => ∃ z : Int, e = .returned (.int .i64 z) ∧ decide (0 ≤ z) = decide (n ∈ l) ∧ w' = w := by
  obtain ⟨r, hr⟩ : ∃ r, decide (n ∈ l) = r := ⟨_, rfl⟩
  rw [hr]
  have HR := Lib.hid hr
  clear hr
  obtain ⟨A, cap, rfl, hcap, hmax, hcells⟩ := hv
  have hlN : (l.length : Int) ≤ 1000000 := by omega
  have HC := Lib.hid hcells
  clear hcells
  go_enter Try.func45, Try.ntmps45
  go_wp2_with fail
  go_loopw [8, 5] (fun i u9 wr => ∃ k : Nat, k ≤ l.length ∧ i = .int .i64 k ∧ Hid (∀ j, j < k → l[j]! ≠ n) ∧ Hid (wr = w))
    (fun i _ _ => l.length - (intOf i).toNat)
  case atStart => exact ⟨0, Nat.zero_le _, rfl, Lib.hid (fun j hj => absurd hj (by omega)), Lib.hid rfl⟩
  case round =>
    obtain ⟨k, hk, rfl, HN, HW⟩ := hrel
    have hwr := HW.out
    subst hwr
    by_cases hlt : k < l.length
    · obtain ⟨b, off, rfl, hb, hc⟩ := HC.out (by omega)
      have hck : wr.cell? ⟨b, off + k, none⟩ = some (.int .u32 (l[k]!.toNat : Int)) := hc k hlt
      have q4 : (0 : Int) ≤ (k : Int) := by omega
      have q5 : (k : Int) < (l.length : Int) := by omega
      clear hc HW
      by_cases he : l[k]! = n
      · have HT : Hid (r = true) := Lib.hid (HR.out.symm.trans (decide_eq_true (by rw [← he, getElem!_pos l k hlt]; exact List.getElem_mem hlt)))
        rw [he] at hck
        clear he
        go_wp2_with fail
        go_ret
        exact ⟨_, rfl, by rw [HT.out]; exact decide_eq_true (by omega), rfl⟩
      · have HN2 : Hid (∀ j, j < k + 1 → l[j]! ≠ n) := Lib.hid (fun j hj => by
          rcases Nat.lt_succ_iff_lt_or_eq.1 hj with h | rfl
          · exact HN.out j h
          · exact he)
        have hq : ((n.toNat : Int) == (l[k]!.toNat : Int)) = false := by rw [beq_eq_false_iff_ne]; exact fun h => he (UInt32.toNat_inj.1 (by omega))
        generalize l[k]! = x at *
        clear he
        go_wp2_with fail
        go_roundw
        case rel => exact ⟨k + 1, by omega, by go_num, HN2, by first | exact Lib.hid rfl | exact Lib.hid trivial⟩
        case measure => simp [intOf]; omega
    · obtain rfl : k = l.length := by omega
      have HT : Hid (r = false) := Lib.hid (HR.out.symm.trans (decide_eq_false (fun hm => by
        obtain ⟨j, hj, e⟩ := List.getElem_of_mem hm
        exact HN.out j hj (by rw [getElem!_pos l j hj]; exact e))))
      go_wp2_with fail
      go_ret
      exact ⟨_, rfl, by rw [HT.out]; rfl, rfl⟩
theorem contains_any (l : List UInt32) (hl : l.length ≤ 1000000) (v : Value) (n : UInt32) (w : World) (hv : RowE enc32 w v l) : Calls Try.prog 38 #[v, .int .u32 (n.toNat : Int)] w fun e w' => e = .returned (.bool (decide (n ∈ l))) ∧ w' = w := by
  have HX := Lib.hid (index_any l hl v n w hv)
  generalize decide (n ∈ l) = r at *
  obtain ⟨A, cap, rfl, -, -, -⟩ := hv
  go_enter Try.func38, Try.ntmps38
  go_wp2_with (go_at_call 45; (with_reducible refine HX.out.mono ?_); rintro e w5 ⟨z, rfl, hz, rfl⟩; have HZ := Lib.hid hz; clear hz)
  go_ret
  exact ⟨ret_bool (by rw [← HZ.out]), rfl⟩
theorem nums_same (l : List UInt32) (hl : l.length ≤ 1000000) (v1 v2 : Value) (w : World) (h1 : RowE enc32 w v1 l) (h2 : RowE enc32 w v2 l) : Calls Try.prog 23 #[v1, v2] w fun e w' => e = .returned (.bool true) ∧ Below w.heap.size w w' := by
  obtain ⟨A, cap, rfl, hcap, hmax, hcells⟩ := h1
  obtain ⟨A', cap', rfl, hcap', hmax', hcells'⟩ := h2
  have hlN : (l.length : Int) ≤ 1000000 := by omega
  have HC := Lib.hid hcells
  have HC' := Lib.hid hcells'
  clear hcells hcells'
  go_enter Try.func23, Try.ntmps23
  go_wp2_with fail
  go_loopw [5] (fun i wr => ∃ k : Nat, k ≤ l.length ∧ i = .int .i64 k ∧ Hid (Below w.heap.size w wr))
    (fun i _ => l.length - (intOf i).toNat)
  case atStart => exact ⟨0, Nat.zero_le _, rfl, Lib.hid (Below.refl _ _)⟩
  case round =>
    obtain ⟨k, hk, rfl, HW⟩ := hrel
    by_cases hlt : k < l.length
    · obtain ⟨b, off, rfl, hb, hc⟩ := HC.out (by omega)
      obtain ⟨b', off', rfl, hb', hc'⟩ := HC'.out (by omega)
      have hck : wr.cell? ⟨b, off + k, none⟩ = some (.int .u32 (l[k]!.toNat : Int)) := (HW.out.cell (p := ⟨b, off + k, none⟩) hb).trans (hc k hlt)
      have hck' : wr.cell? ⟨b', off' + k, none⟩ = some (.int .u32 (l[k]!.toNat : Int)) := (HW.out.cell (p := ⟨b', off' + k, none⟩) hb').trans (hc' k hlt)
      have q4 : (0 : Int) ≤ (k : Int) := by omega
      have q5 : (k : Int) < (l.length : Int) := by omega
      clear hc hc'
      generalize l[k]!.toNat = x at *
      go_wp2_with fail
      go_quiet (fail)
      go_wp2_with fail
      go_roundw
      case rel => exact ⟨k + 1, by omega, by go_num, Lib.hid (by first | exact HW.out | exact below_drawn HW.out | exact below_drawnN HW.out _)⟩
      case measure => simp [intOf]; omega
    · obtain rfl : k = l.length := by omega
      go_wp2_with fail
      go_ret
      exact ⟨rfl, HW.out⟩
theorem infoG : (Try.prog.info? 25).map (·.size) = some 3 := by kernel_rfl
theorem infoR : (Try.prog.info? 28).map (·.size) = some 3 := by kernel_rfl
theorem infoS : (Try.prog.info? 23).map (·.size) = some 1 := by kernel_rfl
theorem infoU : (Try.prog.info? 22).map (·.size) = some 1 := by kernel_rfl
theorem cellsG_one (c : Int) (A A' : Option Addr) (n k n' k' : Nat) : (#[Value.int .u32 c, .slice A n k, .slice A' n' k'] : Array Value).all (·.oneCell') = true := by simp [Value.oneCell']
theorem retG {fn : Func} {p : Tmp} (h : fn.results = #[.cell p 25]) {tmps : Array Value} {w : World} {g : Nat} {cs : Array Value} (hz : cs.size = 3) (hp : tmps.getD p undef = .pointer (some ⟨g, 0, none⟩)) (hg : Bx w g 25 cs) : (results fn tmps).run Try.prog w = .ok (.agg cs) w :=
  ret_cell h hp hg Try.underlying25 rfl (by rw [hz]; exact infoG)
theorem retR {fn : Func} {p : Tmp} (h : fn.results = #[.cell p 28]) {tmps : Array Value} {w : World} {g : Nat} {cs : Array Value} (hz : cs.size = 3) (hp : tmps.getD p undef = .pointer (some ⟨g, 0, none⟩)) (hg : Bx w g 28 cs) : (results fn tmps).run Try.prog w = .ok (.agg cs) w :=
  ret_cell h hp hg Try.underlying28 rfl (by rw [hz]; exact infoR)
theorem one_open (w : World) (T0 : TypeId) (c0 : Array Value) : ∃ W, (w.alloc (.cells c0 T0)) = W ∧ Hid (Bx W (w.heap.size) T0 c0) ∧ Hid (Below w.heap.size w W) ∧ W.heap.size = w.heap.size + 1 :=
  ⟨_, rfl, Lib.hid (Bx.fresh w T0 c0), Lib.hid ((Below.refl _ _).alloc (Nat.le_refl _) _), by rw [World.size_alloc]⟩
theorem as_any (c : Nat) (hc : c < 4294967296) (A A' : Option Addr) (n k n' k' : Nat) (w : World) : Calls Try.prog 12 #[.agg #[.int .u32 (c : Int), .slice A n k, .slice A' n' k']] w fun e w' => e = .returned (.agg #[.int .u32 (c : Int), .slice A n k, .slice A' n' k']) ∧ Below w.heap.size w w' := by
  obtain ⟨W, hW, HA, HZ, HB, hs⟩ := two_open w 25 28 #[.int .u32 (c : Int), .slice A n k, .slice A' n' k'] #[.int .u32 0, .slice none 0 0, .slice none 0 0]
  have c0 := HA.out.cell 0 (.int .u32 (c : Int)) rfl
  have c1 := HA.out.cell 1 (.slice A n k) rfl
  have c2 := HA.out.cell 2 (.slice A' n' k') rfl
  go_enter Try.func12, Try.ntmps12
  go_wp2_with (first
    | ((with_reducible refine gate9 ?_); refine stB #[.int .u32 (c : Int), .slice A n k, .slice A' n' k'] rfl rfl rfl rfl HZ.out infoR rfl (cellsG_one _ _ _ _ _ _ _) ?_; intro w2 ht hg; replace HB := Lib.hid (below_of_grown1 HB.out hg HB.out.size (by omega)); replace HZ := Lib.hid ht; clear ht hg))
  exact bodyPost_ret (retR rfl rfl rfl HZ.out) rfl ⟨rfl, HB.out⟩
theorem sub_toNat32 (x f : UInt32) : ((x.toNat : Int) - (f.toNat : Int)) % 4294967296 = ((x - f).toNat : Int) := by
  rw [UInt32.toNat_sub]
  have := x.toNat_lt; have := f.toNat_lt
  omega
theorem add_toNat32 (x f : UInt32) : ((x.toNat : Int) + (f.toNat : Int)) % 4294967296 = ((x + f).toNat : Int) := by
  rw [UInt32.toNat_add]
  omega
theorem sub1 (f : UInt32) : ((f.toNat : Int) - 1) % 4294967296 = ((f - 1).toNat : Int) := by
  have h := sub_toNat32 f 1
  exact h
theorem new_any (f : UInt32) (w : World) : Calls Try.prog 18 #[.int .u32 (f.toNat : Int)] w fun e w' => e = .returned (.agg #[.int .u32 ((f - 1).toNat : Int), .slice none 0 0, .slice none 0 0]) ∧ Below w.heap.size w w' := by
  obtain ⟨W, hW, HZ, HB, hs⟩ := one_open w 25 #[.int .u32 0, .slice none 0 0, .slice none 0 0]
  have hx := sub1 f
  have hy := (f - 1).toNat_lt
  generalize ((f - 1).toNat) = y at *
  go_enter Try.func18, Try.ntmps18
  go_wp2_with (first
    | ((with_reducible refine gate9 ?_); refine stB #[.int .u32 (y : Int), .slice none 0 0, .slice none 0 0] rfl rfl rfl rfl HZ.out infoG rfl (cellsG_one _ _ _ _ _ _ _) ?_; intro w2 ht hg; replace HB := Lib.hid (below_of_grown1 HB.out hg HB.out.size (by omega)); replace HZ := Lib.hid ht; clear ht hg))
  exact bodyPost_ret (retG rfl rfl rfl HZ.out) rfl ⟨rfl, HB.out⟩
theorem rnew_any (f : UInt32) (w : World) : Calls Try.prog 19 #[.int .u32 (f.toNat : Int)] w fun e w' => e = .returned (.agg #[.int .u32 ((f - 1).toNat : Int), .slice none 0 0, .slice none 0 0]) ∧ Below w.heap.size w w' := by
  obtain ⟨W, hW, HZ, HB, hs⟩ := one_open w 28 #[.int .u32 0, .slice none 0 0, .slice none 0 0]
  have hx := sub1 f
  have hy := (f - 1).toNat_lt
  generalize ((f - 1).toNat) = y at *
  go_enter Try.func19, Try.ntmps19
  go_wp2_with (first
    | ((with_reducible refine gate9 ?_); refine stB #[.int .u32 (y : Int), .slice none 0 0, .slice none 0 0] rfl rfl rfl rfl HZ.out infoR rfl (cellsG_one _ _ _ _ _ _ _) ?_; intro w2 ht hg; replace HB := Lib.hid (below_of_grown1 HB.out hg HB.out.size (by omega)); replace HZ := Lib.hid ht; clear ht hg))
  exact bodyPost_ret (retR rfl rfl rfl HZ.out) rfl ⟨rfl, HB.out⟩
end Go.Proofs.Ytfdnphkdpmlbnaa
