/-
  Package path, and the document's: what asks alone: contracts.
-/
import Derived.Test.YtpihgnpbaaagpaaRtoB
import Derived.Test.YtpihgnpbaaagpaaWnB
import Derived.Test.YtpihgnpbaaagpaaPm
import Derived.Lib.SliceRun
import Derived.Deep.RegionHeld3
import Derived.StillTailTactics
namespace Go.Proofs.Ytpihgnpbaaagpaa
open Go.RowKit
set_option linter.unusedVariables false
set_option linter.unusedSimpArgs false
set_option maxRecDepth 100000

theorem ret_bool {a b : Bool} (h : a = b) : Ending.returned (.bool a) = .returned (.bool b) := by rw [h]
theorem infoPa : (Try.prog.info? 47).map (·.size) = some 14 := by kernel_rfl
theorem infoPs : (Try.prog.info? 27).map (·.size) = some 3 := by kernel_rfl
theorem infoRPa : (Try.prog.info? 76).map (·.size) = some 14 := by kernel_rfl
theorem infoRPs : (Try.prog.info? 33).map (·.size) = some 3 := by kernel_rfl
theorem infoTm : (Try.prog.info? 43).map (·.size) = some 5 := by kernel_rfl
theorem infoRTm : (Try.prog.info? 71).map (·.size) = some 5 := by kernel_rfl
theorem infoWn : (Try.prog.info? 45).map (·.size) = some 3 := by kernel_rfl
theorem infoRWn : (Try.prog.info? 73).map (·.size) = some 3 := by kernel_rfl
theorem infoI : (Try.prog.info? 3).map (·.size) = some 1 := by kernel_rfl
theorem infoU : (Try.prog.info? 41).map (·.size) = some 1 := by kernel_rfl
theorem infoB : (Try.prog.info? 4).map (·.size) = some 1 := by kernel_rfl
theorem infoE : (Try.prog.info? 28).map (·.size) = some 1 := by kernel_rfl
theorem infoSl : (Try.prog.info? 25).map (·.size) = some 1 := by kernel_rfl
theorem infoRSl : (Try.prog.info? 31).map (·.size) = some 1 := by kernel_rfl
theorem cells3_one (A : Option Addr) (n c : Nat) (pr al : Int) : (#[Value.slice A n c, .int .i64 pr, .int .i64 al] : Array Value).all (·.oneCell') = true := by simp [Value.oneCell']
theorem retPs {fn : Func} {p : Tmp} (h : fn.results = #[.cell p 27]) {tmps : Array Value} {w : World} {g : Nat} {cs : Array Value} (hz : cs.size = 3) (hp : tmps.getD p undef = .pointer (some ⟨g, 0, none⟩)) (hg : Bx w g 27 cs) : (results fn tmps).run Try.prog w = .ok (.agg cs) w :=
  ret_cell h hp hg Try.underlying27 rfl (by rw [hz]; exact infoPs)
theorem retRPs {fn : Func} {p : Tmp} (h : fn.results = #[.cell p 33]) {tmps : Array Value} {w : World} {g : Nat} {cs : Array Value} (hz : cs.size = 3) (hp : tmps.getD p undef = .pointer (some ⟨g, 0, none⟩)) (hg : Bx w g 33 cs) : (results fn tmps).run Try.prog w = .ok (.agg cs) w :=
  ret_cell h hp hg Try.underlying33 rfl (by rw [hz]; exact infoRPs)
theorem retPa {fn : Func} {p : Tmp} (h : fn.results = #[.cell p 47]) {tmps : Array Value} {w : World} {g : Nat} {cs : Array Value} (hz : cs.size = 14) (hp : tmps.getD p undef = .pointer (some ⟨g, 0, none⟩)) (hg : Bx w g 47 cs) : (results fn tmps).run Try.prog w = .ok (.agg cs) w :=
  ret_cell h hp hg Try.underlying47 rfl (by rw [hz]; exact infoPa)
theorem there_any (A : Option Addr) (n cap : Nat) (pr al i : Int) (hn : n ≤ maxLen) (w : World) : Calls Try.prog 55 #[.agg #[.slice A n cap, .int .i64 pr, .int .i64 al], .int .i64 i] w fun e w' => e = .returned (.bool (thereB n i)) ∧ Below w.heap.size w w' := by
  have hn' : (n : Int) ≤ 9223372036854775807 := by unfold maxLen at hn; omega
  by_cases h0 : 0 ≤ i
  · by_cases h1 : i < n
    · have HT := Lib.hid (show thereB n i = true from decide_eq_true ⟨h0, h1⟩)
      generalize thereB n i = r at *
      go_enter Try.func55, Try.ntmps55
      go_wp2_with fail
      go_ret
      exact ⟨by rw [HT.out]; rfl, (Below.refl _ _).alloc (Nat.le_refl _) _⟩
    · have HT := Lib.hid (show thereB n i = false from decide_eq_false (by omega))
      generalize thereB n i = r at *
      go_enter Try.func55, Try.ntmps55
      go_wp2_with fail
      go_ret
      exact ⟨by rw [HT.out]; rfl, (Below.refl _ _).alloc (Nat.le_refl _) _⟩
  · have HT := Lib.hid (show thereB n i = false from decide_eq_false (by omega))
    generalize thereB n i = r at *
    go_enter Try.func55, Try.ntmps55
    go_wp2_with fail
    go_ret
    exact ⟨by rw [HT.out]; rfl, (Below.refl _ _).alloc (Nat.le_refl _) _⟩
theorem rthere_any (A : Option Addr) (n cap : Nat) (pr al i : Int) (hn : n ≤ maxLen) (w : World) : Calls Try.prog 42 #[.agg #[.slice A n cap, .int .i64 pr, .int .i64 al], .int .i64 i] w fun e w' => e = .returned (.bool (thereB n i)) ∧ Below w.heap.size w w' := by
  have hn' : (n : Int) ≤ 9223372036854775807 := by unfold maxLen at hn; omega
  by_cases h0 : 0 ≤ i
  · by_cases h1 : i < n
    · have HT := Lib.hid (show thereB n i = true from decide_eq_true ⟨h0, h1⟩)
      generalize thereB n i = r at *
      go_enter Try.func42, Try.ntmps42
      go_wp2_with fail
      go_ret
      exact ⟨by rw [HT.out]; rfl, (Below.refl _ _).alloc (Nat.le_refl _) _⟩
    · have HT := Lib.hid (show thereB n i = false from decide_eq_false (by omega))
      generalize thereB n i = r at *
      go_enter Try.func42, Try.ntmps42
      go_wp2_with fail
      go_ret
      exact ⟨by rw [HT.out]; rfl, (Below.refl _ _).alloc (Nat.le_refl _) _⟩
  · have HT := Lib.hid (show thereB n i = false from decide_eq_false (by omega))
    generalize thereB n i = r at *
    go_enter Try.func42, Try.ntmps42
    go_wp2_with fail
    go_ret
    exact ⟨by rw [HT.out]; rfl, (Below.refl _ _).alloc (Nat.le_refl _) _⟩
theorem answers_any (x : Pa) (nonce now : Int) (w : World) : Calls Try.prog 39 #[.agg (cellsPa x), .int .u32 nonce, .int .i64 now] w fun e w' => e = .returned (.bool (ansB x nonce now)) ∧ Below w.heap.size w w' := by
  obtain ⟨ad, st, er, ⟨s, v, r, b, k⟩, ⟨cw, ss, pa⟩, no, be, se⟩ := x
  dsimp only [cellsPa]
  by_cases h1 : se = 1
  · by_cases h2 : no = nonce
    · by_cases h3 : be ≤ now
      · have HT := Lib.hid (show ansB ⟨ad, st, er, ⟨s, v, r, b, k⟩, ⟨cw, ss, pa⟩, no, be, se⟩ nonce now = true by simp [ansB, h1, h2, h3])
        generalize ansB ⟨ad, st, er, ⟨s, v, r, b, k⟩, ⟨cw, ss, pa⟩, no, be, se⟩ nonce now = q at *
        go_enter Try.func39, Try.ntmps39
        go_wp2_with fail
        go_ret
        exact ⟨by rw [HT.out]; rfl, (Below.refl _ _).alloc (Nat.le_refl _) _⟩
      · have HT := Lib.hid (show ansB ⟨ad, st, er, ⟨s, v, r, b, k⟩, ⟨cw, ss, pa⟩, no, be, se⟩ nonce now = false by simp [ansB, h1, h2, h3])
        generalize ansB ⟨ad, st, er, ⟨s, v, r, b, k⟩, ⟨cw, ss, pa⟩, no, be, se⟩ nonce now = q at *
        go_enter Try.func39, Try.ntmps39
        go_wp2_with fail
        go_ret
        exact ⟨by rw [HT.out]; rfl, (Below.refl _ _).alloc (Nat.le_refl _) _⟩
    · have HT := Lib.hid (show ansB ⟨ad, st, er, ⟨s, v, r, b, k⟩, ⟨cw, ss, pa⟩, no, be, se⟩ nonce now = false by simp [ansB, h1, h2])
      generalize ansB ⟨ad, st, er, ⟨s, v, r, b, k⟩, ⟨cw, ss, pa⟩, no, be, se⟩ nonce now = q at *
      go_enter Try.func39, Try.ntmps39
      go_wp2_with fail
      go_ret
      exact ⟨by rw [HT.out]; rfl, (Below.refl _ _).alloc (Nat.le_refl _) _⟩
  · have HT := Lib.hid (show ansB ⟨ad, st, er, ⟨s, v, r, b, k⟩, ⟨cw, ss, pa⟩, no, be, se⟩ nonce now = false by simp [ansB, h1])
    generalize ansB ⟨ad, st, er, ⟨s, v, r, b, k⟩, ⟨cw, ss, pa⟩, no, be, se⟩ nonce now = q at *
    go_enter Try.func39, Try.ntmps39
    go_wp2_with fail
    go_ret
    exact ⟨by rw [HT.out]; rfl, (Below.refl _ _).alloc (Nat.le_refl _) _⟩
theorem ractive_any (l : List Pa) (hl : l.length ≤ 1000) (v : Value) (pr al i : Int) (w : World) (hv : RowP w v l) : Calls Try.prog 56 #[.agg #[v, .int .i64 pr, .int .i64 al], .int .i64 i] w fun e w' => e = .returned (.bool (activeB ⟨l, pr, al⟩ i)) ∧ Below w.heap.size w w' := by
  have HW := Lib.hid hv
  obtain ⟨A, cap, rfl, hcap, hmax, hcells⟩ := hv
  have HH := Lib.hid (fun W => rthere_any A l.length cap pr al i (by unfold maxLen; omega) W)
  have HA := Lib.hid (BS.first w 33 #[.slice A l.length cap, .int .i64 pr, .int .i64 al])
  cases ht : thereB l.length i with
  | false =>
    have HT := Lib.hid (show activeB ⟨l, pr, al⟩ i = false by simp [activeB, ht])
    generalize activeB ⟨l, pr, al⟩ i = q at *
    rw [ht] at HH
    clear ht hcells
    go_enter Try.func56, Try.ntmps56
    go_wp2_with (first
      | ((with_reducible refine gate9 ?_); refine ldB rfl rfl rfl HA.out.own Try.underlying33 rfl infoRPs ?_)
      | (go_at_call 42; (with_reducible refine (HH.out _).mono ?_); rintro e w1 ⟨rfl, hb⟩; replace HA := Lib.hid (HA.out.later hb); clear hb))
    go_ret
    exact ⟨by rw [HT.out]; rfl, HA.out.below⟩
  | true =>
    obtain ⟨hlt, hi⟩ := thereB_lt ht
    obtain ⟨b, off, rfl, hb, hc⟩ := hcells (by omega)
    have hc0 := (hc i.toNat hlt) 1 _ rfl
    generalize hk : i.toNat = k at *
    subst hi
    have hat : atL l (k : Int) = l[k] := by unfold atL; rw [Int.toNat_natCast, List.getD_eq_getElem?_getD, List.getElem?_eq_getElem hlt]; rfl
    have HT := Lib.hid (show activeB ⟨l, pr, al⟩ (k : Int) = decide (l[k].st = 2) by simp [activeB, ht, hat])
    generalize activeB ⟨l, pr, al⟩ (k : Int) = q at *
    rw [ht] at HH
    generalize hst : l[k].st = st at *
    clear ht hc hat hk hst HW
    have hbe := HA.out.below
    have q4 : (0 : Int) ≤ (k : Int) := by omega
    have q5 : (k : Int) < (l.length : Int) := by omega
    go_enter Try.func56, Try.ntmps56
    go_wp2_with (first
      | ((with_reducible refine gate9 ?_); refine ldB rfl rfl rfl HA.out.own Try.underlying33 rfl infoRPs ?_)
      | (go_at_call 42; (with_reducible refine (HH.out _).mono ?_); rintro e w1 ⟨rfl, hb1⟩; replace HA := Lib.hid (HA.out.later hb1); clear hb1 hbe; have hd := (HA.out.below.cell (p := ⟨b, off + k * 14 + 1, none⟩) hb).trans hc0; have c0 := HA.out.own.cell 0 _ rfl))
    all_goals (go_ret; exact ⟨by rw [HT.out]; rfl, HA.out.below⟩)
end Go.Proofs.Ytpihgnpbaaagpaa
