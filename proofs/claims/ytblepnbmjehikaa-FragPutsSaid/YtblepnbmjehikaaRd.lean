/-
  The document's Put: what is refused, and what waits: contracts.
-/
import Derived.Test.YtblepnbmjehikaaRc
import Derived.Test.YtblepnbmjehikaaSo
namespace Go.Proofs.Ytblepnbmjehikaa
open Go.RowKit
set_option linter.unusedVariables false
set_option linter.unusedSimpArgs false
set_option maxRecDepth 100000

section
theorem fresh_ownG {w : World} {B size n : Nat} {e : TypeId} {v : Value} {xs : List Value} (h : OwnG w B e size v n xs) : Fresh B v := by
  rcases h.2 with ⟨rfl, _⟩ | ⟨g, cap, cur, fz, rfl, hb, _⟩
  · exact fresh_none _ _ _
  · exact fresh_some hb
theorem flatP_onec (l : List Pc) : ∀ u ∈ flatP l, u.oneCell' = true := by
  intro u hu
  obtain ⟨x, _, h⟩ := List.mem_flatMap.1 hu
  exact cells_one h
theorem RowP.fed {P : Program} {w : World} {v : Value} {l : List Pc} (h : RowP w v l) : Fed P w 8 v l.length (flatP l) := by
  have h9 := h
  obtain ⟨A, cap, rfl, hc, hm, h⟩ := h
  cases A with
  | none =>
    have h0 : l = [] := by
      cases l with
      | nil => rfl
      | cons x l =>
        obtain ⟨b, off, e, _⟩ := h (by simp)
        cases e
    subst h0
    exact ⟨rfl, by simp [flatP], fun W => by simp [Builtin.lenOf], fun W hW => run_firstCells_none W 8 0 0 cap⟩
  | some a => exact Fed.cells (flatP_length l) (flatP_onec l) (fedP h9)
end
theorem cellsRB_one (A : Option Addr) (n c : Nat) : (#[Value.slice A n c] : Array Value).all (·.oneCell') = true := by simp [Value.oneCell']
theorem retRBMO {fn : Func} {p q u : Tmp} (h : fn.results = #[.cell p 35, .cell q 44, .tmp u]) {tmps : Array Value} {w : World} {g g' : Nat} {cs ds : Array Value} {v : Value} (hz : cs.size = 1) (hz' : ds.size = 6) (hp : tmps.getD p undef = .pointer (some ⟨g, 0, none⟩)) (hq : tmps.getD q undef = .pointer (some ⟨g', 0, none⟩)) (hu : tmps.getD u undef = v) (hg : Bx w g 35 cs) (hg' : Bx w g' 44 ds) : (results fn tmps).run Try.prog w = .ok (.tuple #[.agg cs, .agg ds, v]) w := by
  have hp' : tmps[p]?.getD undef = .pointer (some ⟨g, 0, none⟩) := by simpa using hp
  have hq' : tmps[q]?.getD undef = .pointer (some ⟨g', 0, none⟩) := by simpa using hq
  have hu' : tmps[u]?.getD undef = v := by simpa using hu
  simp [results, h, hp', hq', hu', asAddr, run_loadVar_row w g 35 35 cs (0, 0) _ hg Try.underlying35 rfl (by rw [hz]; exact infoRB), run_loadVar_row w g' 44 44 ds (0, 0) _ hg' Try.underlying44 rfl (by rw [hz']; exact infoRM)]
/-- What the document's Put tells. -/
def RPutR (w w' : World) (v : Value) (l : List Pc) (e : Ending) (m : List Pc) (o : Option Mg) : Prop := ∃ A k, e = .returned (.tuple #[.agg #[.slice A m.length k], .agg (cellsMg (o.getD zeroMg)), .bool o.isSome]) ∧ RowP w' (.slice A m.length k) m ∧ (∀ g, g < w.heap.size → Apart v l g → Apart (.slice A m.length k) m g) ∧ Below w.heap.size w w'
set_option maxHeartbeats 4000000 in
theorem rput_there (l : List Pc) (hl : l.length < 1000) (p x : Pc) (hf : findT l p.ts = some x) (v : Value) (w : World) (h : RowP w v l) :
    Calls Try.prog 15 #[.agg #[v], .agg (cellsPc p)] w fun e w' => RPutR w w' v l e l none := by
  obtain ⟨i, hi, hix, -⟩ := idx_some hf
  have HFN := Lib.hid (find_ix hix)
  obtain ⟨W1, hW1, HA, HP, HB1, hs1⟩ := two_open w 35 47 #[v] (cellsPc p)
  obtain ⟨W, hW, HZ4, HZ5, HB2, hs2⟩ := two_open W1 35 44 #[.slice none 0 0] #[.int .u32 0, .bool false, .int .u16 0, .int .u16 0, .int .u32 0, .string ⟨#[]⟩]
  replace HA := Lib.hid (HA.out.later HB2.out)
  replace HP := Lib.hid (HP.out.later HB2.out)
  have HV := Lib.hid h
  have HB := Lib.hid (HB1.out.trans (HB2.out.mono HB1.out.size))
  obtain ⟨A, cap, rfl, hcap, hmx, _⟩ := id h
  have hmxI : (cap : Int) ≤ 9223372036854775807 := by unfold maxLen at hmx; omega
  have HVW := Lib.hid (HV.out.below HB.out)
  have c0 := HP.out.cell 0 (.int .u32 (p.ts.toNat : Int)) rfl
  have c7 := HP.out.cell 7 (.string p.tx) rfl
  have a0 := HA.out.cell 0 (.slice A l.length cap) rfl
  have hsW1 : w.heap.size + 2 ≤ W1.heap.size := Nat.le_of_eq hs1.symm
  have hsW : W1.heap.size + 2 ≤ W.heap.size := Nat.le_of_eq hs2.symm
  clear hs1 hs2 HB1 HB2 h
  have q1 : (0 : Int) ≤ (i : Int) := by omega
  clear hix
  go_enter Try.func15, Try.ntmps15
  go_wp2_with (first
    | ((with_reducible refine gate9 ?_); refine ldB (ty := 35) (cs := #[.slice A l.length cap]) rfl rfl rfl HA.out Try.underlying35 rfl infoRB ?_)
    | (go_at_call 29; (with_reducible refine (HFN.out _ _ HVW.out).mono ?_); rintro e w6 ⟨rfl, h6⟩; obtain rfl := h6.symm; clear h6)
    | ((with_reducible refine gate9 ?_); refine stB (ty := 35) #[.slice A l.length cap] rfl rfl rfl rfl HZ4.out infoRB rfl (cellsRB_one _ _ _) ?_; intro w8 ht hg; replace HZ5 := Lib.hid (HZ5.out.kept hg (by omega)); replace HB := Lib.hid (below_of_grown1 HB.out hg HB.out.size (by omega)); replace HZ4 := Lib.hid ht; clear ht hg)
    | ((with_reducible refine gate9 ?_); refine stB (ty := 44) (cellsMg zeroMg) rfl rfl rfl rfl HZ5.out infoRM rfl (cellsMg_one _) ?_; intro w9 ht hg; replace HZ4 := Lib.hid (HZ4.out.kept hg (by omega)); replace HB := Lib.hid (below_of_grown1 HB.out hg HB.out.size (by omega)); replace HZ5 := Lib.hid ht; clear ht hg))
  exact bodyPost_ret (retRBMO rfl rfl rfl rfl rfl rfl HZ4.out HZ5.out) rfl ⟨A, cap, rfl, HV.out.below HB.out, fun g _ h => h, HB.out⟩
set_option maxHeartbeats 4000000 in
theorem rput_empty (l : List Pc) (hl : l.length < 1000) (p : Pc) (hf : findT l p.ts = none) (hp : p.tx.size = 0) (v : Value) (w : World) (h : RowP w v l) :
    Calls Try.prog 15 #[.agg #[v], .agg (cellsPc p)] w fun e w' => RPutR w w' v l e l none := by
  have hte : p.tx.toList.isEmpty = true := empty_yes hp
  have HFN := Lib.hid (find_ix (idx_none hf))
  obtain ⟨W1, hW1, HA, HP, HB1, hs1⟩ := two_open w 35 47 #[v] (cellsPc p)
  obtain ⟨W, hW, HZ4, HZ5, HB2, hs2⟩ := two_open W1 35 44 #[.slice none 0 0] #[.int .u32 0, .bool false, .int .u16 0, .int .u16 0, .int .u32 0, .string ⟨#[]⟩]
  replace HA := Lib.hid (HA.out.later HB2.out)
  replace HP := Lib.hid (HP.out.later HB2.out)
  have HV := Lib.hid h
  have HB := Lib.hid (HB1.out.trans (HB2.out.mono HB1.out.size))
  obtain ⟨A, cap, rfl, hcap, hmx, _⟩ := id h
  have hmxI : (cap : Int) ≤ 9223372036854775807 := by unfold maxLen at hmx; omega
  have HVW := Lib.hid (HV.out.below HB.out)
  have c0 := HP.out.cell 0 (.int .u32 (p.ts.toNat : Int)) rfl
  have c7 := HP.out.cell 7 (.string p.tx) rfl
  have a0 := HA.out.cell 0 (.slice A l.length cap) rfl
  have hsW1 : w.heap.size + 2 ≤ W1.heap.size := Nat.le_of_eq hs1.symm
  have hsW : W1.heap.size + 2 ≤ W.heap.size := Nat.le_of_eq hs2.symm
  clear hs1 hs2 HB1 HB2 h
  clear hp
  go_enter Try.func15, Try.ntmps15
  go_wp2_with (first
    | ((with_reducible refine gate9 ?_); refine ldB (ty := 35) (cs := #[.slice A l.length cap]) rfl rfl rfl HA.out Try.underlying35 rfl infoRB ?_)
    | (go_at_call 29; (with_reducible refine (HFN.out _ _ HVW.out).mono ?_); rintro e w6 ⟨rfl, h6⟩; obtain rfl := h6.symm; clear h6)
    | ((with_reducible refine gate9 ?_); refine stB (ty := 35) #[.slice A l.length cap] rfl rfl rfl rfl HZ4.out infoRB rfl (cellsRB_one _ _ _) ?_; intro w8 ht hg; replace HZ5 := Lib.hid (HZ5.out.kept hg (by omega)); replace HB := Lib.hid (below_of_grown1 HB.out hg HB.out.size (by omega)); replace HZ4 := Lib.hid ht; clear ht hg)
    | ((with_reducible refine gate9 ?_); refine stB (ty := 44) (cellsMg zeroMg) rfl rfl rfl rfl HZ5.out infoRM rfl (cellsMg_one _) ?_; intro w9 ht hg; replace HZ4 := Lib.hid (HZ4.out.kept hg (by omega)); replace HB := Lib.hid (below_of_grown1 HB.out hg HB.out.size (by omega)); replace HZ5 := Lib.hid ht; clear ht hg))
  exact bodyPost_ret (retRBMO rfl rfl rfl rfl rfl rfl HZ4.out HZ5.out) rfl ⟨A, cap, rfl, HV.out.below HB.out, fun g _ h => h, HB.out⟩
set_option maxHeartbeats 8000000 in
theorem rput_wait (l : List Pc) (hl : l.length < 999) (hok : OkB l) (p : Pc) (hf : findT l p.ts = none) (hp : 0 < p.tx.size) (hrc : rowC (l ++ [p]) p = none) (v : Value) (w : World) (h : RowP w v l) :
    Calls Try.prog 15 #[.agg #[v], .agg (cellsPc p)] w fun e w' => RPutR w w' v l e (l ++ [p]) none := by
  have hte : p.tx.toList.isEmpty = false := empty_no hp
  have HFN := Lib.hid (find_ix (idx_none hf))
  have hok2 := okB_put hok hf hp
  have hl2 : (l ++ [p]).length ≤ 1000 := by rw [List.length_append, List.length_singleton]; omega
  have hpm : p ∈ l ++ [p] := by simp
  have HRW := Lib.hid (fun V W h => rrow_any (l ++ [p]) hl2 hok2.nd p hpm V W h)
  have HRC : Hid ((rowC (l ++ [p]) p).getD [] = []) := Lib.hid (by rw [hrc]; rfl)
  have HLN : Hid ((l ++ [p]).length = l.length + 1) := Lib.hid (by rw [List.length_append, List.length_singleton])
  obtain ⟨i0, hi0, hz0, hz1, hz2⟩ := info_parts infoRPZ
  have HI := Lib.hid hi0
  have HZ0 := Lib.hid hz0
  have HZ1 := Lib.hid hz1
  have HZ2 := Lib.hid hz2
  obtain ⟨W1, hW1, HA, HP, HB1, hs1⟩ := two_open w 35 47 #[v] (cellsPc p)
  obtain ⟨W, hW, HZ4, HZ5, HB2, hs2⟩ := two_open W1 35 44 #[.slice none 0 0] #[.int .u32 0, .bool false, .int .u16 0, .int .u16 0, .int .u32 0, .string ⟨#[]⟩]
  replace HA := Lib.hid (HA.out.later HB2.out)
  replace HP := Lib.hid (HP.out.later HB2.out)
  have HV := Lib.hid h
  have HB := Lib.hid (HB1.out.trans (HB2.out.mono HB1.out.size))
  obtain ⟨A, cap, rfl, hcap, hmx, _⟩ := id h
  have hmxI : (cap : Int) ≤ 9223372036854775807 := by unfold maxLen at hmx; omega
  have HVW := Lib.hid (HV.out.below HB.out)
  have c0 := HP.out.cell 0 (.int .u32 (p.ts.toNat : Int)) rfl
  have c7 := HP.out.cell 7 (.string p.tx) rfl
  have a0 := HA.out.cell 0 (.slice A l.length cap) rfl
  have hsW1 : w.heap.size + 2 ≤ W1.heap.size := Nat.le_of_eq hs1.symm
  have hsW : W1.heap.size + 2 ≤ W.heap.size := Nat.le_of_eq hs2.symm
  clear hs1 hs2 HB1 HB2 h
  obtain ⟨W3, hW3⟩ : ∃ X, W.alloc (.cells #[] 47) = X := ⟨_, rfl⟩
  have HO3 : Hid (OwnG W3 W.heap.size 47 8 (.slice (some ⟨W.heap.size, 0, none⟩) 0 0) 0 []) := Lib.hid (by rw [← hW3]; exact OwnG.full (Nat.le_refl _) 47 8 [] 0 (by decide) rfl)
  have HB3 : Hid (Below W.heap.size W W3) := Lib.hid (by rw [← hW3]; exact below_one _ _)
  have HA3 := Lib.hid (HA.out.later HB3.out)
  have HP3 := Lib.hid (HP.out.later HB3.out)
  have HV3 := Lib.hid (HVW.out.below HB3.out)
  have HWs : Hid (W.heap.size ≤ W3.heap.size) := Lib.hid HB3.out.size
  have b0 := HA3.out.cell 0 (.slice A l.length cap) rfl
  have hsA := HA.out.lt
  have hsP := HP.out.lt
  have hs4 := HZ4.out.lt
  have hs5 := HZ5.out.lt
  have hl3 : (l.length : Int) ≤ 1000 := by omega
  clear hp hok2 hpm hrc hi0 hz0 hz1 hz2 hl2
  go_enter Try.func15, Try.ntmps15
  go_wp2_with (first
    | (go_at_call 29; (with_reducible refine (HFN.out _ _ HVW.out).mono ?_); rintro e w6 ⟨rfl, h6⟩; obtain rfl := h6.symm; clear h6)
    | (at_builtin; refine wpList_append_fed _ rfl (.tmp 26) (.tmp 28) 33 33 rfl W.heap.size 47 i0 _ 8 32 Try.underlying33 (.inr ⟨_, Try.underlying33⟩) HI.out HZ0.out HZ1.out HZ2.out rfl _ _ _ rfl (HO3.out) _ l.length (flatP l) rfl (RowP.fed HV3.out) (by unfold maxLen; omega) (by omega) (HWs.out) ?_; intro v7 w7 hown hgr; rw [Nat.zero_add, List.nil_append] at hown; have hbb : Below W.heap.size W w7 := HB3.out.grown hgr HWs.out (fun z hz => (HO3.out.lt z hz).1); obtain ⟨A7, k7, rfl, -, -, -⟩ := id hown.slice; have HO7 := Lib.hid hown; have HP7 := Lib.hid (HP.out.later hbb); have HB7 := Lib.hid hbb; clear hown hgr hbb b0 a0)
    | (first | ((with_reducible refine gate9 ?_); refine ldB (ty := 47) (cs := #[.int .u32 (p.ts.toNat : Int), .bool p.bg, .bool p.en, .bool p.fr, .int .u16 (p.st.toNat : Int), .int .u16 (p.ss.toNat : Int), .int .u32 (p.pp.toNat : Int), .string p.tx]) rfl rfl rfl HP7.out Try.underlying47 rfl infoRP ?_) | ((with_reducible refine gate9 ?_); refine ldB (ty := 47) (cs := #[.int .u32 (p.ts.toNat : Int), .bool p.bg, .bool p.en, .bool p.fr, .int .u16 (p.st.toNat : Int), .int .u16 (p.ss.toNat : Int), .int .u32 (p.pp.toNat : Int), .string p.tx]) rfl rfl rfl HP.out Try.underlying47 rfl infoRP ?_))
    | (at_builtin; refine wpList_append_fed _ rfl (.tmp 30) (.tmp 32) 33 33 rfl W.heap.size 47 i0 _ 8 32 Try.underlying33 (.inr ⟨_, Try.underlying33⟩) HI.out HZ0.out HZ1.out HZ2.out rfl _ _ _ rfl (HO7.out.alloc _) _ 1 (cellsPc p).toList rfl (Fed.block (heap_alloc_new _ _) rfl (fun u hu => cells_one hu)) (by unfold maxLen; omega) (by omega) (by rw [World.size_alloc]; have := HB7.out.size; omega) ?_; intro v8 w8 hown hgr; rw [← flatP_add] at hown; have hbb : Below W.heap.size W w8 := below_own HB7.out HB7.out.size HO7.out (Nat.le_refl _) hgr; obtain ⟨A8, k8, rfl, -, -, -⟩ := id hown.slice; have HR8 : Hid (RowP w8 (.slice A8 (l.length + 1) k8) (l ++ [p])) := Lib.hid (rowP_of_ownG hown); have HF8 := Lib.hid (fresh_ownG hown); replace HP := Lib.hid (HP.out.later hbb); replace HZ4 := Lib.hid (HZ4.out.later hbb); replace HZ5 := Lib.hid (HZ5.out.later hbb); replace HB := Lib.hid (HB.out.trans (hbb.mono HB.out.size)); clear hown hgr hbb)
    | (go_at_call 30; refine (HRW.out _ _ HR8.out).mono ?_; rintro e w9 ⟨A9, k9, rfl, -, hb⟩; rw [HRC.out]; replace HR8 := Lib.hid (HR8.out.below hb); replace HZ4 := Lib.hid (HZ4.out.later hb); replace HZ5 := Lib.hid (HZ5.out.later hb); replace HB := Lib.hid (HB.out.trans (hb.mono HB.out.size)); clear hb)
    | ((with_reducible refine gate9 ?_); refine stB (ty := 35) #[.slice A8 (l.length + 1) k8] rfl rfl rfl rfl HZ4.out infoRB rfl (cellsRB_one _ _ _) ?_; intro w8 ht hg; replace HZ5 := Lib.hid (HZ5.out.kept hg (by omega)); replace HB := Lib.hid (below_of_grown1 HB.out hg HB.out.size (by omega)); replace HR8 := Lib.hid (RowP.stays HR8.out HF8.out hg (by omega)); replace HZ4 := Lib.hid ht; clear ht hg)
    | ((with_reducible refine gate9 ?_); refine stB (ty := 44) (cellsMg zeroMg) rfl rfl rfl rfl HZ5.out infoRM rfl (cellsMg_one _) ?_; intro w9 ht hg; replace HZ4 := Lib.hid (HZ4.out.kept hg (by omega)); replace HB := Lib.hid (below_of_grown1 HB.out hg HB.out.size (by omega)); replace HR8 := Lib.hid (RowP.stays HR8.out HF8.out hg (by omega)); replace HZ5 := Lib.hid ht; clear ht hg))
  exact bodyPost_ret (retRBMO rfl rfl rfl rfl rfl rfl HZ4.out HZ5.out) rfl ⟨A8, k8, by rw [HLN.out]; rfl, by rw [HLN.out]; exact HR8.out, fun g hg _ => by rw [HLN.out]; exact Apart.fresh HF8.out (by omega), HB.out⟩
end Go.Proofs.Ytblepnbmjehikaa
