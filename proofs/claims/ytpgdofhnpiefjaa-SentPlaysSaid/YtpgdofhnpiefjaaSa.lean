/-
  Package sent: small functions: contracts.
-/
import Derived.Test.YtpgdofhnpiefjaaSq
import Derived.Test.YtpgdofhnpiefjaaScal
import Derived.Test.YtpgdofhnpiefjaaOwn
import Derived.Test.YtpgdofhnpiefjaaWaits
import Derived.Test.YtpgdofhnpiefjaaWords
import Derived.Lib.SliceRun
import Derived.Deep.RegionHeld3
import Derived.StillTailTactics
namespace Go.Proofs.Ytpgdofhnpiefjaa
open Go.RowKit
set_option linter.unusedVariables false
set_option linter.unusedSimpArgs false
set_option maxRecDepth 100000

theorem infoP : (Try.prog.info? 58).map (·.size) = some 7 := by kernel_rfl
theorem infoRP : (Try.prog.info? 72).map (·.size) = some 7 := by kernel_rfl
theorem infoS : (Try.prog.info? 27).map (·.size) = some 2 := by kernel_rfl
theorem infoRS : (Try.prog.info? 53).map (·.size) = some 2 := by kernel_rfl
theorem infoR : (Try.prog.info? 42).map (·.size) = some 7 := by kernel_rfl
theorem infoI : (Try.prog.info? 3).map (·.size) = some 1 := by kernel_rfl
theorem infoU : (Try.prog.info? 22).map (·.size) = some 1 := by kernel_rfl
theorem infoB : (Try.prog.info? 4).map (·.size) = some 1 := by kernel_rfl
theorem infoSL : (Try.prog.info? 25).map (·.size) = some 1 := by kernel_rfl
theorem infoRSL : (Try.prog.info? 51).map (·.size) = some 1 := by kernel_rfl
theorem infoSU : (Try.prog.info? 39).map (·.size) = some 1 := by kernel_rfl
theorem infoSI : (Try.prog.info? 40).map (·.size) = some 1 := by kernel_rfl
theorem infoPZ : (Try.prog.info? 58).map (fun i => (i.zero, i.size, i.bytes)) = some (some (.agg #[.int .u32 0, .int .i64 0, .int .i64 0, .int .i64 0, .int .i64 0, .int .i64 0, .int .i64 0]), 7, 56) := by kernel_rfl
theorem infoRPZ : (Try.prog.info? 72).map (fun i => (i.zero, i.size, i.bytes)) = some (some (.agg #[.int .u32 0, .int .i64 0, .int .i64 0, .int .i64 0, .int .i64 0, .int .i64 0, .int .i64 0]), 7, 56) := by kernel_rfl
theorem infoUZ : (Try.prog.info? 22).map (fun i => (i.zero, i.size, i.bytes)) = some (some (.int .u32 0), 1, 4) := by kernel_rfl
theorem infoIZ : (Try.prog.info? 3).map (fun i => (i.zero, i.size, i.bytes)) = some (some (.int .i64 0), 1, 8) := by kernel_rfl
theorem cellsS_one (c : Int) (A : Option Addr) (n k : Nat) : (#[Value.int .u32 c, .slice A n k] : Array Value).all (·.oneCell') = true := by simp [Value.oneCell']
theorem retS {fn : Func} {p : Tmp} (h : fn.results = #[.cell p 27]) {tmps : Array Value} {w : World} {g : Nat} {cs : Array Value} (hz : cs.size = 2) (hp : tmps.getD p undef = .pointer (some ⟨g, 0, none⟩)) (hg : Bx w g 27 cs) : (results fn tmps).run Try.prog w = .ok (.agg cs) w :=
  ret_cell h hp hg Try.underlying27 rfl (by rw [hz]; exact infoS)
theorem retRS {fn : Func} {p : Tmp} (h : fn.results = #[.cell p 53]) {tmps : Array Value} {w : World} {g : Nat} {cs : Array Value} (hz : cs.size = 2) (hp : tmps.getD p undef = .pointer (some ⟨g, 0, none⟩)) (hg : Bx w g 53 cs) : (results fn tmps).run Try.prog w = .ok (.agg cs) w :=
  ret_cell h hp hg Try.underlying53 rfl (by rw [hz]; exact infoRS)
theorem oneE (l : List UInt32) : ∀ u ∈ l.map enc32, u.oneCell' = true := by
  intro u hu
  obtain ⟨x, _, rfl⟩ := List.mem_map.1 hu
  rfl
theorem rowE_of_ownG {w : World} {base n : Nat} {e : TypeId} {v : Value} {l : List UInt32} (h : OwnG w base e 1 v n (l.map enc32)) : RowE enc32 w v l := by
  have hl : l.length = n := by have := h.1; simpa using this
  subst hl
  rcases h.2 with ⟨rfl, h0⟩ | ⟨g, cap, cur, fz, rfl, hb, hh, h1, h2, _⟩
  · exact ⟨none, 0, by rw [h0], by omega, Nat.zero_le _, fun hp => by omega⟩
  · refine ⟨_, cap, rfl, h1, h2, fun _ => ⟨g, 0, rfl, (Array.getElem?_eq_some_iff.1 hh).1, fun j hj => ?_⟩⟩
    rw [Nat.zero_add]
    refine h.cells _ _ ?_
    rw [List.getElem?_map, List.getElem?_eq_getElem hj, getElem!_pos l j hj]
    rfl
theorem sub_toNat32 (x f : UInt32) : ((x.toNat : Int) - (f.toNat : Int)) % 4294967296 = ((x - f).toNat : Int) := by
  rw [UInt32.toNat_sub]
  have := x.toNat_lt; have := f.toNat_lt
  omega
theorem add_toNat32 (x f : UInt32) : ((x.toNat : Int) + (f.toNat : Int)) % 4294967296 = ((x + f).toNat : Int) := by
  rw [UInt32.toNat_add]
  omega
theorem sub1 (f : UInt32) : ((f.toNat : Int) - 1) % 4294967296 = ((f - 1).toNat : Int) := sub_toNat32 f 1
theorem new_any (f : UInt32) (w : World) : Calls Try.prog 5 #[.int .u32 (f.toNat : Int)] w fun e w' => e = .returned (.agg #[.int .u32 ((f - 1).toNat : Int), .slice none 0 0]) ∧ Below w.heap.size w w' := by
  obtain ⟨W, hW, HZ, HB, hs⟩ := one_open w 27 #[.int .u32 0, .slice none 0 0]
  have hx := sub1 f
  have hy := (f - 1).toNat_lt
  generalize ((f - 1).toNat) = y at *
  go_enter Try.func5, Try.ntmps5
  go_wp2_with (first
    | ((with_reducible refine gate9 ?_); refine stB #[.int .u32 (y : Int), .slice none 0 0] rfl rfl rfl rfl HZ.out infoS rfl (cellsS_one _ _ _ _) ?_; intro w2 ht hg; replace HB := Lib.hid (below_of_grown1 HB.out hg HB.out.size (by omega)); replace HZ := Lib.hid ht; clear ht hg))
  exact bodyPost_ret (retS rfl rfl rfl HZ.out) rfl ⟨rfl, HB.out⟩
theorem next_num (c : UInt32) (n : Nat) : (((c.toNat : Int) + (n : Int)) % 4294967296 + 1) % 4294967296 = ((c + UInt32.ofNat n + 1).toNat : Int) := by
  have h2 : (c + UInt32.ofNat n + 1).toNat = ((c.toNat + n % 4294967296) % 4294967296 + 1) % 4294967296 := by
    rw [UInt32.toNat_add, UInt32.toNat_add, UInt32.toNat_ofNat']; rfl
  rw [h2]
  omega
theorem next_any (c : UInt32) (A : Option Addr) (n k : Nat) (hn : (n : Int) ≤ 9223372036854775807) (w : World) : Calls Try.prog 15 #[.agg #[.int .u32 (c.toNat : Int), .slice A n k]] w fun e w' => e = .returned (.int .u32 ((c + UInt32.ofNat n + 1).toNat : Int)) ∧ Below w.heap.size w w' := by
  have hx := next_num c n
  have hy := (c + UInt32.ofNat n + 1).toNat_lt
  generalize ((c + UInt32.ofNat n + 1).toNat) = y at *
  have q : (0 : Int) ≤ (n : Int) := by omega
  go_enter Try.func15, Try.ntmps15
  go_wp2_with fail
  go_ret
  exact ⟨ret_u32 (by rw [← hx]), below_one _ _⟩
def pickI (c n : Int) : Int := (if c < 0 then -(c + 1) else c) % n
theorem pickI_le {c n : Int} (h : 0 < n) : 0 ≤ pickI c n ∧ pickI c n < n := ⟨Int.emod_nonneg _ (by omega), Int.emod_lt_of_pos _ h⟩
theorem pick_any (c n : Int) (hc : FitI c) (h : 0 < n) (h' : n ≤ 10000) (w : World) : Calls Try.prog 6 #[.int .i64 c, .int .i64 n] w fun e w' => e = .returned (.int .i64 (pickI c n)) ∧ w' = w := by
  have h1 := pickI_le (c := c) h
  obtain ⟨h2, h3⟩ := hc
  have hn0 : n ≠ 0 := by omega
  by_cases hneg : c < 0
  · have HT := Lib.hid (show pickI c n = (-(c + 1)) % n by unfold pickI; rw [if_pos hneg])
    have e1 : Int.tmod (-(c + 1)) n = (-(c + 1)) % n := Int.tmod_eq_emod_of_nonneg (by omega)
    rw [HT.out] at h1
    generalize (-(c + 1)) % n = q at *
    generalize pickI c n = r at *
    have e2 : wrap64 q = q := by unfold wrap64; omega
    go_enter Try.func6, Try.ntmps6
    go_wp2_with fail
    go_ret
    exact ⟨ret_i64 (by rw [HT.out]), rfl⟩
  · have HT := Lib.hid (show pickI c n = c % n by unfold pickI; rw [if_neg hneg])
    have e1 : Int.tmod c n = c % n := Int.tmod_eq_emod_of_nonneg (by omega)
    rw [HT.out] at h1
    generalize c % n = q at *
    generalize pickI c n = r at *
    have e2 : wrap64 q = q := by unfold wrap64; omega
    go_enter Try.func6, Try.ntmps6
    go_wp2_with fail
    go_ret
    exact ⟨ret_i64 (by rw [HT.out]), rfl⟩
theorem out_any (x : Pc) (p : Int) (w : World) : Calls Try.prog 17 #[.agg (cellsPc x), .int .i64 p] w fun e w' => e = .returned (.bool (outB p x)) ∧ Below w.heap.size w w' := by
  obtain ⟨W, hW, HZ, HB, hs⟩ := one_open w 58 (cellsPc x)
  have c2 := HZ.out.cell 2 (.int .i64 x.st) rfl
  have c5 := HZ.out.cell 5 (.int .i64 x.pa) rfl
  obtain ⟨r, hr⟩ : ∃ r, outB p x = r := ⟨_, rfl⟩
  rw [hr]
  have HR := Lib.hid hr
  clear hr
  by_cases h1 : x.st = 1
  · by_cases h2 : p < 0
    · have HT := Lib.hid (show outB p x = true by simp [outB, h1, h2])
      generalize x.st = st at *
      subst h1
      go_enter Try.func17, Try.ntmps17
      go_wp2_with fail
      go_ret
      exact ⟨ret_bool (by rw [← HR.out, HT.out]), HB.out⟩
    · by_cases h3 : x.pa = p
      · have HT := Lib.hid (show outB p x = true by simp [outB, h1, h3])
        generalize x.st = st at *
        generalize x.pa = pa at *
        subst h1
        subst h3
        go_enter Try.func17, Try.ntmps17
        go_wp2_with fail
        go_ret
        exact ⟨ret_bool (by rw [← HR.out, HT.out]; try simp), HB.out⟩
      · have HT := Lib.hid (show outB p x = false by simp [outB, h2, h3])
        have h3' : (x.pa == p) = false := by rw [beq_eq_false_iff_ne]; exact h3
        generalize x.st = st at *
        generalize x.pa = pa at *
        subst h1
        go_enter Try.func17, Try.ntmps17
        go_wp2_with fail
        go_ret
        exact ⟨ret_bool (by rw [← HR.out, HT.out]; try simp [h3]), HB.out⟩
  · have HT := Lib.hid (show outB p x = false by simp [outB, h1])
    have h1' : (x.st == 1) = false := by rw [beq_eq_false_iff_ne]; exact h1
    generalize x.st = st at *
    go_enter Try.func17, Try.ntmps17
    go_wp2_with fail
    go_ret
    exact ⟨ret_bool (by rw [← HR.out, HT.out]), HB.out⟩
set_option maxHeartbeats 1000000 in
theorem lose_any (g cap n i : Nat) (l : List Pc) (hi : i < n) (w : World) (h : OwnS w g 58 cap n l) : Calls Try.prog 25 #[.pointer (some ⟨g, i * 7, none⟩)] w fun e w' => e = .returned (.tuple #[]) ∧ OwnS w' g 58 cap n (l.set i (lostX (l[i]'(by rw [h.len]; exact hi)))) ∧ w.grownBy w' (some g) := by
  have hl : l.length = n := h.len
  have hil : i < l.length := by omega
  obtain ⟨x, hx⟩ : ∃ x, l[i] = x := ⟨_, rfl⟩
  have HX := Lib.hid hx
  have HO := Lib.hid h
  have HE := Lib.hid (show l.set i (lostX (l[i]'hil)) = (l.set i { x with st := 3 }).set i (lostX x) by rw [HX.out, List.set_set])
  have HG := Lib.hid (World.grownBy.refl w (some g))
  have HY : Hid (l.set i (lostX (l[i]'hil)) = l.set i (lostX x)) := Lib.hid (by rw [hx])
  rw [show l.set i (lostX (l[i]'(by rw [h.len]; exact hi))) = l.set i (lostX (l[i]'hil)) from rfl, HY.out]
  have HX2 := Lib.hid (show (l.set i { x with st := 3 })[i]'(by rw [List.length_set]; exact hil) = { x with st := 3 } from List.getElem_set_self _)
  clear h hx HE hl
  go_enter Try.func25, Try.ntmps25
  go_wp2_with (first
    | ((with_reducible refine gate9 ?_); refine stS i 2 (.int .i64 3) { x with st := 3 } rfl rfl rfl rfl HO.out hi (by decide) infoI rfl (by rw [HX.out]; rfl) ?_; intro w2 ht hg; replace HG := Lib.hid (grown_then HG.out hg); replace HO := Lib.hid ht; clear ht hg)
    | ((with_reducible refine gate9 ?_); refine stS i 3 (.int .i64 0) (lostX x) rfl rfl rfl rfl HO.out hi (by decide) infoI rfl (by rw [HX2.out]; rfl) ?_; intro w2 ht hg; replace HG := Lib.hid (grown_then HG.out hg); replace HO := Lib.hid ht; clear ht hg))
  refine bodyPost_end (results_none rfl _ _ _) rfl ?_
  exact ⟨rfl, by have h9 := HO.out; rwa [List.set_set] at h9, HG.out⟩
theorem clip_any (A : Option Addr) (n k : Nat) (hn : n ≤ k) (hk : (k : Int) ≤ 9223372036854775807) (w : World) : Calls Try.prog 16 #[.slice A n k] w fun e w' => ∃ B, e = .returned (.slice B n n) ∧ (0 < n → B = A) ∧ (A = none → B = none) ∧ w' = w := by
  have q1 : (0 : Int) ≤ (n : Int) := by omega
  have q2 : (n : Int) ≤ (k : Int) := by omega
  go_enter Try.func16, Try.ntmps16
  go_wp2_with fail
  all_goals go_ret
  all_goals exact ⟨_, rfl, fun _ => rfl, fun h => h, rfl⟩
end Go.Proofs.Ytpgdofhnpiefjaa
