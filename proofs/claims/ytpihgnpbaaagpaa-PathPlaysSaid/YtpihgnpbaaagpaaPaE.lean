/-
  Package path: Beat, Ack, Fail, Good, SetPrimary: contracts.
-/
import Derived.Test.YtpihgnpbaaagpaaPaD
namespace Go.Proofs.Ytpihgnpbaaagpaa
open Go.RowKit
set_option linter.unusedVariables false
set_option linter.unusedSimpArgs false
set_option maxRecDepth 100000

theorem one_open (w : World) (T0 : TypeId) (c0 : Array Value) : ∃ W, (w.alloc (.cells c0 T0)) = W ∧ Hid (Bx W (w.heap.size) T0 c0) ∧ Hid (Below w.heap.size w W) ∧ W.heap.size = w.heap.size + 1 := by
  exact ⟨_, rfl, Lib.hid (Bx.fresh w T0 c0), Lib.hid ((Below.refl _ _).alloc (Nat.le_refl _) _), by simp⟩
theorem three_open (w : World) (T0 T1 T2 : TypeId) (c0 c1 c2 : Array Value) : ∃ W, (((w.alloc (.cells c0 T0)).alloc (.cells c1 T1)).alloc (.cells c2 T2)) = W ∧ Hid (Bx W (w.heap.size) T0 c0) ∧ Hid (Bx W (w.heap.size + 1) T1 c1) ∧ Hid (Bx W (w.heap.size + 1 + 1) T2 c2) ∧ Hid (Below w.heap.size w W) ∧ W.heap.size = w.heap.size + 3 := by
  obtain ⟨W2, rfl, h0, h1, hb, hs⟩ := two_open w T0 T1 c0 c1
  have h2 := Bx.fresh ((w.alloc (.cells c0 T0)).alloc (.cells c1 T1)) T2 c2
  rw [hs] at h2
  exact ⟨_, rfl, Lib.hid (h0.out.old _), Lib.hid (h1.out.old _), Lib.hid h2, Lib.hid (hb.out.alloc (by omega) _), by rw [World.size_alloc, hs]⟩
theorem four_open (w : World) (T0 T1 T2 T3 : TypeId) (c0 c1 c2 c3 : Array Value) : ∃ W, ((((w.alloc (.cells c0 T0)).alloc (.cells c1 T1)).alloc (.cells c2 T2)).alloc (.cells c3 T3)) = W ∧ Hid (Bx W (w.heap.size) T0 c0) ∧ Hid (Bx W (w.heap.size + 1) T1 c1) ∧ Hid (Bx W (w.heap.size + 1 + 1) T2 c2) ∧ Hid (Bx W (w.heap.size + 1 + 1 + 1) T3 c3) ∧ Hid (Below w.heap.size w W) ∧ W.heap.size = w.heap.size + 4 := by
  obtain ⟨W2, rfl, h0, h1, h2, hb, hs⟩ := three_open w T0 T1 T2 c0 c1 c2
  have h3 := Bx.fresh (((w.alloc (.cells c0 T0)).alloc (.cells c1 T1)).alloc (.cells c2 T2)) T3 c3
  rw [hs] at h3
  exact ⟨_, rfl, Lib.hid (h0.out.old _), Lib.hid (h1.out.old _), Lib.hid (h2.out.old _), Lib.hid h3, Lib.hid (hb.out.alloc (by omega) _), by rw [World.size_alloc, hs]⟩
theorem results_row1 {P : Program} {fn : Func} {p u : Tmp} {ty : TypeId} (h : fn.results = #[.cell p ty, .tmp u]) (tmps : Array Value) (w : World) (g : Nat) (t : TypeId) (cs : Array Value) (fr : Nat × Nat) (d : TypeDesc)
    (hp : tmps.getD p undef = .pointer (some ⟨g, 0, none⟩)) (hg : w.heap[g]? = some (.cells cs t fr))
    (hu : P.underlying ty = some d) (hd : (match d with | .struct _ | .array _ _ => true | _ => false) = true) (hi : (P.info? ty).map (·.size) = some cs.size) :
    (results fn tmps).run P w = .ok (.tuple #[.agg cs, tmps.getD u undef]) w := by
  have hp' : tmps[p]?.getD undef = .pointer (some ⟨g, 0, none⟩) := by simpa using hp
  simp [results, h, hp', asAddr, run_loadVar_row w g t ty cs fr d hg hu hd hi]
theorem retPs1 {fn : Func} {p u : Tmp} (h : fn.results = #[.cell p 27, .tmp u]) {tmps : Array Value} {w : World} {g : Nat} {cs : Array Value} {r : Value} (hz : cs.size = 3) (hp : tmps.getD p undef = .pointer (some ⟨g, 0, none⟩)) (hr : tmps.getD u undef = r) (hg : Bx w g 27 cs) : (results fn tmps).run Try.prog w = .ok (.tuple #[.agg cs, r]) w := by
  subst hr
  exact results_row1 h tmps w g _ cs (0, 0) _ hp hg Try.underlying27 rfl (by rw [hz]; exact infoPs)
theorem retRPs1 {fn : Func} {p u : Tmp} (h : fn.results = #[.cell p 33, .tmp u]) {tmps : Array Value} {w : World} {g : Nat} {cs : Array Value} {r : Value} (hz : cs.size = 3) (hp : tmps.getD p undef = .pointer (some ⟨g, 0, none⟩)) (hr : tmps.getD u undef = r) (hg : Bx w g 33 cs) : (results fn tmps).run Try.prog w = .ok (.tuple #[.agg cs, r]) w := by
  subst hr
  exact results_row1 h tmps w g _ cs (0, 0) _ hp hg Try.underlying33 rfl (by rw [hz]; exact infoRPs)
theorem chg_not (f : Value) (A : Option Addr) (n cap : Nat) (pr al i : Int) (hn : n ≤ maxLen) (ht : thereB n i = false) (w : World) : Calls Try.prog 37 #[.agg #[.slice A n cap, .int .i64 pr, .int .i64 al], .int .i64 i, f] w fun e w' => e = .returned (.tuple #[]) ∧ Below w.heap.size w w' := by
  have HH := Lib.hid (fun W => there_any A n cap pr al i hn W)
  rw [ht] at HH
  have HA := Lib.hid (BS.first w 27 #[.slice A n cap, .int .i64 pr, .int .i64 al])
  clear ht
  go_enter Try.func37, Try.ntmps37
  go_wp2_with (first
    | (go_at_call 55; (with_reducible refine (HH.out _).mono ?_); rintro e w1 ⟨rfl, hb⟩; replace HA := Lib.hid (HA.out.later hb); clear hb)
    | ((with_reducible refine gate9 ?_); refine ldB rfl rfl rfl HA.out.own Try.underlying27 rfl infoPs ?_))
  refine bodyPost_end (results_none rfl _ _ _) rfl ?_
  exact ⟨rfl, HA.out.below⟩
theorem pinRow {w : World} {g n k : Nat} {l : List Pa} {cur : Array Value} (hb : Bx w g 47 cur) (hl : l.length = n) (hk : k < l.length) (hc : ∀ j, j < n * 14 → cur[j]? = (flatP l)[j]?) : Pin g 47 cur (k * 14) (cellsPa l[k]) w :=
  Pin.first hb fun j hj => by
    have hj' : j < 14 := hj
    rw [hc _ (by omega), flatP_at l k j hk hj']
    simp
set_option maxHeartbeats 1000000 in
theorem chg_Beat (g n cap k : Nat) (pr al : Int) (hk : k < n) (hn : n ≤ maxLen) (q0 q1 : Value) (St St' : World → Prop) (hst : ∀ W W', St W → Below W.heap.size W W' → St W')
    (hf : ∀ W, St W → Calls Try.prog 51 #[.pointer (some ⟨g, k * 14, none⟩), q0, q1] W fun e W' => e = .returned (.tuple #[]) ∧ St' W') (w : World) (hw : St w) :
    Calls Try.prog 37 #[.agg #[.slice (some ⟨g, 0, none⟩) n cap, .int .i64 pr, .int .i64 al], .int .i64 (k : Int), .func (.func 51) #[] #[q0, q1]] w fun e w' => e = .returned (.tuple #[]) ∧ St' w' := by
  have HH := Lib.hid (fun W => there_any (some ⟨g, 0, none⟩) n cap pr al k hn W)
  rw [thereB_nat hk] at HH
  have HA := Lib.hid (BS.first w 27 #[.slice (some ⟨g, 0, none⟩) n cap, .int .i64 pr, .int .i64 al])
  have HS := Lib.hid (fun W h => hst w W hw h)
  have HF := Lib.hid hf
  have q4 : (0 : Int) ≤ (k : Int) := by omega
  have q5 : (k : Int) < (n : Int) := by omega
  clear hw hst hf hk
  go_enter Try.func37, Try.ntmps37
  go_wp2_with (first
    | (go_at_call 55; (with_reducible refine (HH.out _).mono ?_); rintro e w1 ⟨rfl, hb⟩; replace HA := Lib.hid (HA.out.later hb); clear hb; have c0 := HA.out.own.cell 0 (.slice (some ⟨g, 0, none⟩) n cap) rfl)
    | ((with_reducible refine gate9 ?_); refine ldB rfl rfl rfl HA.out.own Try.underlying27 rfl infoPs ?_))
  refine (HF.out _ (HS.out _ HA.out.below)).mono ?_
  rintro e w2 ⟨rfl, h⟩
  have HE := Lib.hid h
  clear h c0
  go_wp2_with fail
  refine bodyPost_end (results_none rfl _ _ _) rfl ?_
  exact ⟨rfl, HE.out⟩
set_option maxHeartbeats 1000000 in
theorem chg_Ack (g n cap k : Nat) (pr al : Int) (hk : k < n) (hn : n ≤ maxLen) (q0 q1 q2 q3 : Value) (St St' : World → Prop) (hst : ∀ W W', St W → Below W.heap.size W W' → St W')
    (hf : ∀ W, St W → Calls Try.prog 38 #[.pointer (some ⟨g, k * 14, none⟩), q0, q1, q2, q3] W fun e W' => e = .returned (.tuple #[]) ∧ St' W') (w : World) (hw : St w) :
    Calls Try.prog 37 #[.agg #[.slice (some ⟨g, 0, none⟩) n cap, .int .i64 pr, .int .i64 al], .int .i64 (k : Int), .func (.func 38) #[] #[q0, q1, q2, q3]] w fun e w' => e = .returned (.tuple #[]) ∧ St' w' := by
  have HH := Lib.hid (fun W => there_any (some ⟨g, 0, none⟩) n cap pr al k hn W)
  rw [thereB_nat hk] at HH
  have HA := Lib.hid (BS.first w 27 #[.slice (some ⟨g, 0, none⟩) n cap, .int .i64 pr, .int .i64 al])
  have HS := Lib.hid (fun W h => hst w W hw h)
  have HF := Lib.hid hf
  have q4 : (0 : Int) ≤ (k : Int) := by omega
  have q5 : (k : Int) < (n : Int) := by omega
  clear hw hst hf hk
  go_enter Try.func37, Try.ntmps37
  go_wp2_with (first
    | (go_at_call 55; (with_reducible refine (HH.out _).mono ?_); rintro e w1 ⟨rfl, hb⟩; replace HA := Lib.hid (HA.out.later hb); clear hb; have c0 := HA.out.own.cell 0 (.slice (some ⟨g, 0, none⟩) n cap) rfl)
    | ((with_reducible refine gate9 ?_); refine ldB rfl rfl rfl HA.out.own Try.underlying27 rfl infoPs ?_))
  refine (HF.out _ (HS.out _ HA.out.below)).mono ?_
  rintro e w2 ⟨rfl, h⟩
  have HE := Lib.hid h
  clear h c0
  go_wp2_with fail
  refine bodyPost_end (results_none rfl _ _ _) rfl ?_
  exact ⟨rfl, HE.out⟩
set_option maxHeartbeats 1000000 in
theorem chg_Fail (g n cap k : Nat) (pr al : Int) (hk : k < n) (hn : n ≤ maxLen) (q0 q1 : Value) (St St' : World → Prop) (hst : ∀ W W', St W → Below W.heap.size W W' → St W')
    (hf : ∀ W, St W → Calls Try.prog 45 #[.pointer (some ⟨g, k * 14, none⟩), q0, q1] W fun e W' => e = .returned (.tuple #[]) ∧ St' W') (w : World) (hw : St w) :
    Calls Try.prog 37 #[.agg #[.slice (some ⟨g, 0, none⟩) n cap, .int .i64 pr, .int .i64 al], .int .i64 (k : Int), .func (.func 45) #[] #[q0, q1]] w fun e w' => e = .returned (.tuple #[]) ∧ St' w' := by
  have HH := Lib.hid (fun W => there_any (some ⟨g, 0, none⟩) n cap pr al k hn W)
  rw [thereB_nat hk] at HH
  have HA := Lib.hid (BS.first w 27 #[.slice (some ⟨g, 0, none⟩) n cap, .int .i64 pr, .int .i64 al])
  have HS := Lib.hid (fun W h => hst w W hw h)
  have HF := Lib.hid hf
  have q4 : (0 : Int) ≤ (k : Int) := by omega
  have q5 : (k : Int) < (n : Int) := by omega
  clear hw hst hf hk
  go_enter Try.func37, Try.ntmps37
  go_wp2_with (first
    | (go_at_call 55; (with_reducible refine (HH.out _).mono ?_); rintro e w1 ⟨rfl, hb⟩; replace HA := Lib.hid (HA.out.later hb); clear hb; have c0 := HA.out.own.cell 0 (.slice (some ⟨g, 0, none⟩) n cap) rfl)
    | ((with_reducible refine gate9 ?_); refine ldB rfl rfl rfl HA.out.own Try.underlying27 rfl infoPs ?_))
  refine (HF.out _ (HS.out _ HA.out.below)).mono ?_
  rintro e w2 ⟨rfl, h⟩
  have HE := Lib.hid h
  clear h c0
  go_wp2_with fail
  refine bodyPost_end (results_none rfl _ _ _) rfl ?_
  exact ⟨rfl, HE.out⟩
set_option maxHeartbeats 1000000 in
theorem chg_Good (g n cap k : Nat) (pr al : Int) (hk : k < n) (hn : n ≤ maxLen) (q0 : Value) (St St' : World → Prop) (hst : ∀ W W', St W → Below W.heap.size W W' → St W')
    (hf : ∀ W, St W → Calls Try.prog 52 #[.pointer (some ⟨g, k * 14, none⟩), q0] W fun e W' => e = .returned (.tuple #[]) ∧ St' W') (w : World) (hw : St w) :
    Calls Try.prog 37 #[.agg #[.slice (some ⟨g, 0, none⟩) n cap, .int .i64 pr, .int .i64 al], .int .i64 (k : Int), .func (.func 52) #[] #[q0]] w fun e w' => e = .returned (.tuple #[]) ∧ St' w' := by
  have HH := Lib.hid (fun W => there_any (some ⟨g, 0, none⟩) n cap pr al k hn W)
  rw [thereB_nat hk] at HH
  have HA := Lib.hid (BS.first w 27 #[.slice (some ⟨g, 0, none⟩) n cap, .int .i64 pr, .int .i64 al])
  have HS := Lib.hid (fun W h => hst w W hw h)
  have HF := Lib.hid hf
  have q4 : (0 : Int) ≤ (k : Int) := by omega
  have q5 : (k : Int) < (n : Int) := by omega
  clear hw hst hf hk
  go_enter Try.func37, Try.ntmps37
  go_wp2_with (first
    | (go_at_call 55; (with_reducible refine (HH.out _).mono ?_); rintro e w1 ⟨rfl, hb⟩; replace HA := Lib.hid (HA.out.later hb); clear hb; have c0 := HA.out.own.cell 0 (.slice (some ⟨g, 0, none⟩) n cap) rfl)
    | ((with_reducible refine gate9 ?_); refine ldB rfl rfl rfl HA.out.own Try.underlying27 rfl infoPs ?_))
  refine (HF.out _ (HS.out _ HA.out.below)).mono ?_
  rintro e w2 ⟨rfl, h⟩
  have HE := Lib.hid h
  clear h c0
  go_wp2_with fail
  refine bodyPost_end (results_none rfl _ _ _) rfl ?_
  exact ⟨rfl, HE.out⟩
set_option maxHeartbeats 1000000 in
theorem chg_SetPrimary (g n cap k : Nat) (pr al : Int) (hk : k < n) (hn : n ≤ maxLen) (q0 q1 q2 : Value) (St St' : World → Prop) (hst : ∀ W W', St W → Below W.heap.size W W' → St W')
    (hf : ∀ W, St W → Calls Try.prog 50 #[.pointer (some ⟨g, k * 14, none⟩), q0, q1, q2] W fun e W' => e = .returned (.tuple #[]) ∧ St' W') (w : World) (hw : St w) :
    Calls Try.prog 37 #[.agg #[.slice (some ⟨g, 0, none⟩) n cap, .int .i64 pr, .int .i64 al], .int .i64 (k : Int), .func (.func 50) #[] #[q0, q1, q2]] w fun e w' => e = .returned (.tuple #[]) ∧ St' w' := by
  have HH := Lib.hid (fun W => there_any (some ⟨g, 0, none⟩) n cap pr al k hn W)
  rw [thereB_nat hk] at HH
  have HA := Lib.hid (BS.first w 27 #[.slice (some ⟨g, 0, none⟩) n cap, .int .i64 pr, .int .i64 al])
  have HS := Lib.hid (fun W h => hst w W hw h)
  have HF := Lib.hid hf
  have q4 : (0 : Int) ≤ (k : Int) := by omega
  have q5 : (k : Int) < (n : Int) := by omega
  clear hw hst hf hk
  go_enter Try.func37, Try.ntmps37
  go_wp2_with (first
    | (go_at_call 55; (with_reducible refine (HH.out _).mono ?_); rintro e w1 ⟨rfl, hb⟩; replace HA := Lib.hid (HA.out.later hb); clear hb; have c0 := HA.out.own.cell 0 (.slice (some ⟨g, 0, none⟩) n cap) rfl)
    | ((with_reducible refine gate9 ?_); refine ldB rfl rfl rfl HA.out.own Try.underlying27 rfl infoPs ?_))
  refine (HF.out _ (HS.out _ HA.out.below)).mono ?_
  rintro e w2 ⟨rfl, h⟩
  have HE := Lib.hid h
  clear h c0
  go_wp2_with fail
  refine bodyPost_end (results_none rfl _ _ _) rfl ?_
  exact ⟨rfl, HE.out⟩
end Go.Proofs.Ytpihgnpbaaagpaa
