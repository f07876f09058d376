/-
  Package sent: a piece that is told newly: contract.
-/
import Derived.Test.YtpgdofhnpiefjaaSh
namespace Go.Proofs.Ytpgdofhnpiefjaa
open Go.RowKit
set_option linter.unusedVariables false
set_option linter.unusedSimpArgs false
set_option maxRecDepth 100000

def encI (n : Int) : Value := .int .i64 n
theorem one_i64 (x : Int) : ∀ u ∈ ([.int .i64 x] : List Value), u.oneCell' = true := by intro u hu; simp at hu; subst hu; rfl
/-- What was told lies in block gr; its rows lie from block B on, each in its own. -/
structure RAt (W : World) (gr B : Nat) (r : Rs) (A : Option Addr) (k : Nat) (A' : Option Addr) (k' : Nat) : Prop where
  box : Bx W gr 42 #[.int .i64 r.by', .int .i64 r.out, .bool r.mo, .bool r.fr, .slice A r.dn.length k, .slice none 0 0, .slice A' r.tk.length k']
  dn : OwnG W B 22 1 (.slice A r.dn.length k) r.dn.length (r.dn.map enc32)
  tk : OwnG W B 3 1 (.slice A' r.tk.length k') r.tk.length (r.tk.map encI)
  ne : ∀ z, (Value.slice A r.dn.length k).ownBlock = some z → (Value.slice A' r.tk.length k').ownBlock ≠ some z
  lt : gr < B
  bs : B ≤ W.heap.size
section
variable {W W' : World} {gr B : Nat} {r r' : Rs} {A A' : Option Addr} {k k' : Nat}
theorem RAt.same (h : RAt W gr B r A k A' k') (hb : W'.heap[gr]? = W.heap[gr]?) (h1 : ∀ z, B ≤ z → (Value.slice A r.dn.length k).ownBlock = some z → W'.heap[z]? = W.heap[z]?) (h2 : ∀ z, B ≤ z → (Value.slice A' r.tk.length k').ownBlock = some z → W'.heap[z]? = W.heap[z]?) (hs : B ≤ W'.heap.size) : RAt W' gr B r A k A' k' :=
  ⟨hb.trans h.box, h.dn.keep fun z hz => h1 z (h.dn.lt z hz).1 hz, h.tk.keep fun z hz => h2 z (h.tk.lt z hz).1 hz, h.ne, h.lt, hs⟩
theorem RAt.later (h : RAt W gr B r A k A' k') (hb : Below W.heap.size W W') : RAt W' gr B r A k A' k' :=
  ⟨h.box.later hb, h.dn.later hb, h.tk.later hb, h.ne, h.lt, Nat.le_trans h.bs hb.size⟩
/-- A field of numbers is stored. -/
theorem RAt.put (h : RAt W gr B r A k A' k') (hg : W.grownBy W' (some gr)) (hx : Bx W' gr 42 #[.int .i64 r'.by', .int .i64 r'.out, .bool r'.mo, .bool r'.fr, .slice A r.dn.length k, .slice none 0 0, .slice A' r.tk.length k']) (h1 : r'.dn = r.dn) (h2 : r'.tk = r.tk) : RAt W' gr B r' A k A' k' := by
  have hk1 : ∀ z, (Value.slice A r.dn.length k).ownBlock = some z → W'.heap[z]? = W.heap[z]? := fun z hz => hg.block z (h.dn.lt z hz).2 (by intro e; cases e; have := (h.dn.lt _ hz).1; have := h.lt; omega)
  have hk2 : ∀ z, (Value.slice A' r.tk.length k').ownBlock = some z → W'.heap[z]? = W.heap[z]? := fun z hz => hg.block z (h.tk.lt z hz).2 (by intro e; cases e; have := (h.tk.lt _ hz).1; have := h.lt; omega)
  obtain ⟨by', out, mo, fr, dn, fa, tk⟩ := r'
  simp only at h1 h2
  subst h1
  subst h2
  exact ⟨hx, h.dn.keep hk1, h.tk.keep hk2, h.ne, h.lt, Nat.le_trans h.bs hg.size⟩
end
def wrapI (n : Int) : Int := IntKind.i64.wrap n
theorem tellR_no {now : Int} {r : Rs} {x : Pc} (h : ¬ (x.ti = 1 ∧ x.tm ≤ now)) : tellR now r x = { r with fr := true, by' := r.by' + x.sz } := by unfold tellR; rw [if_neg h]
theorem tellR_yes {now : Int} {r : Rs} {x : Pc} (h : x.ti = 1 ∧ x.tm ≤ now) : tellR now r x = { r with fr := true, by' := r.by' + x.sz, tk := r.tk ++ [wrapI (now - x.tm)] } := by unfold tellR; rw [if_pos h]; rfl
set_option maxHeartbeats 2000000 in
theorem tell_any (x : Pc) (now : Int) (gr B : Nat) (r : Rs) (A : Option Addr) (k : Nat) (A' : Option Addr) (k' : Nat) (hz1 : 1 ≤ x.sz) (hz2 : x.sz ≤ 1500) (hb0 : 0 ≤ r.by') (hb1 : r.by' ≤ 1000000) (hk : r.tk.length ≤ 1000) (w : World) (h : RAt w gr B r A k A' k') :
    Calls Try.prog 21 #[.pointer (some ⟨gr, 0, none⟩), .agg (cellsPc x), .int .i64 now] w fun e w' => ∃ A2 k2, e = .returned (.tuple #[]) ∧ RAt w' gr B (tellR now r x) A k A2 k2 ∧ Ch (fun z => z = gr ∨ (Value.slice A' r.tk.length k').ownBlock = some z) w w' ∧ (∀ z, (Value.slice A2 (tellR now r x).tk.length k2).ownBlock = some z → (Value.slice A' r.tk.length k').ownBlock = some z ∨ w.heap.size ≤ z) := by
  obtain ⟨R, hR⟩ : ∃ R, tellR now r x = R := ⟨_, rfl⟩
  rw [hR]
  have HR := Lib.hid hR
  clear hR
  obtain ⟨W, hW, HX, HB, hs⟩ := one_open w 58 (cellsPc x)
  have HRA := Lib.hid (h.later HB.out)
  have HC := Lib.hid (show Ch (fun z => z = gr ∨ (Value.slice A' r.tk.length k').ownBlock = some z) w W from ch_of_below HB.out)
  have hgw : gr < w.heap.size := h.box.lt
  have hBw := h.bs
  obtain ⟨b1, hb1e⟩ : ∃ b1, r.by' + x.sz = b1 := ⟨_, rfl⟩
  have HLT := Lib.hid (fun z hz => (h.tk.lt z hz).2)
  have HDL0 := Lib.hid (fun z hz => (h.dn.lt z hz).2)
  have HNE0 := Lib.hid h.ne
  clear h HB
  by_cases hti : x.ti = 1
  · by_cases htm : x.tm ≤ now
    · replace HR := Lib.hid (HR.out.symm.trans (tellR_yes (r := r) ⟨hti, htm⟩))
      rw [hb1e] at HR
      have q1 : (x.ti == 1) = true := by rw [hti]; rfl
      obtain ⟨y, hy⟩ : ∃ y, wrapI (now - x.tm) = y := ⟨_, rfl⟩
      rw [hy] at HR
      have hy2 : IntKind.i64.wrap (now - x.tm) = y := hy
      obtain ⟨i0, hi0, hz0, hz1', hz2'⟩ := info_parts infoIZ
      have HI := Lib.hid hi0
      have HZ0 := Lib.hid hz0
      have HZ1 := Lib.hid hz1'
      have HZ2 := Lib.hid hz2'
      clear hy hi0 hz0 hz1' hz2' hti
      go_enter Try.func21, Try.ntmps21
      go_wp2_with ((with_reducible refine gate9 ?_); refine stF (cs := #[.int .i64 r.by', .int .i64 r.out, .bool r.mo, .bool r.fr, .slice A r.dn.length k, .slice none 0 0, (.slice A' r.tk.length k')]) (.bool true) rfl rfl rfl rfl HRA.out.box (by show 3 < 7; decide) infoB rfl ?_; intro w2 ht hg; replace HX := Lib.hid (HX.out.kept hg (by omega)); replace HC := Lib.hid (HC.out.grown hg (fun z hz _ => by cases hz; exact .inl rfl)); replace HRA : Hid (RAt w2 gr B { r with fr := true } A k A' k') := Lib.hid (RAt.put (r' := { r with fr := true }) HRA.out hg ht rfl rfl); clear ht hg)
      have HS : (fun V => Bx V gr 42 #[.int .i64 r.by', .int .i64 r.out, .bool r.mo, .bool true, .slice A r.dn.length k, .slice none 0 0, (.slice A' r.tk.length k')] ∧ Bx V w.heap.size 58 (cellsPc x) ∧ w.heap.size < V.heap.size) _ := ⟨HRA.out.box.drew, HX.out.drew, HX.out.drew.lt⟩
      have hr1 : IntKind.i64.wrap b1 = b1 := by rw [IntKind.wrap_i64]; omega
      refine wp_region_noPanic ?_
      refine wp_region_waits (S := (fun V => Bx V gr 42 #[.int .i64 r.by', .int .i64 r.out, .bool r.mo, .bool true, .slice A r.dn.length k, .slice none 0 0, (.slice A' r.tk.length k')] ∧ Bx V w.heap.size 58 (cellsPc x) ∧ w.heap.size < V.heap.size)) [9] (by kernel_rfl) HS (fun hHeld => ?_)
      clear HS
      refine wpAnyW_take (i := 0) (v := ?_) (by simp only [List.getElem?_toArray, List.getElem?_cons_zero]; rfl) (by kernel_rfl) (by kernel_rfl) (by kernel_rfl) (by kernel_rfl) (by kernel_rfl) (fun _ _ _ h => h) (Or.inl ⟨by rfl, ?_⟩) (by assumption) ?_
      rotate_left 1
      · (intro w' hSw; go_simp; try with_reducible rfl)
      try simp only [Act.put, List.setIfInBounds_toArray, List.set_cons_zero, List.set_cons_succ]
      refine wpAnyW_take (i := 1) (v := ?_) (by simp only [List.getElem?_toArray, List.getElem?_cons_succ, List.getElem?_cons_zero]; rfl) (by kernel_rfl) (by kernel_rfl) (by kernel_rfl) (by kernel_rfl) (by kernel_rfl) (fun _ _ _ h => h) (Or.inl ⟨by rfl, ?_⟩) (by assumption) ?_
      rotate_left 1
      · (intro w' hSw; go_simp; try with_reducible rfl)
      try simp only [Act.put, List.setIfInBounds_toArray, List.set_cons_zero, List.set_cons_succ]
      refine wpAnyW_take (i := 2) (v := ?_) (by simp only [List.getElem?_toArray, List.getElem?_cons_succ, List.getElem?_cons_zero]; rfl) (by kernel_rfl) (by kernel_rfl) (by kernel_rfl) (by kernel_rfl) (by kernel_rfl) (fun _ _ _ h => h) (Or.inl ⟨by rfl, ?_⟩) (by assumption) ?_
      rotate_left 1
      · (intro w' hSw; go_simp; try with_reducible rfl)
      try simp only [Act.put, List.setIfInBounds_toArray, List.set_cons_zero, List.set_cons_succ]
      refine wpAnyW_take (i := 3) (v := ?_) (by simp only [List.getElem?_toArray, List.getElem?_cons_succ, List.getElem?_cons_zero]; rfl) (by kernel_rfl) (by kernel_rfl) (by kernel_rfl) (by kernel_rfl) (by kernel_rfl) (fun _ _ _ h => h) (Or.inl ⟨by rfl, ?_⟩) (by assumption) ?_
      rotate_left 1
      · (intro w' hSw; have hq := hSw.1.cell 0 (.int .i64 r.by') rfl; go_simp; try with_reducible rfl)
      try simp only [Act.put, List.setIfInBounds_toArray, List.set_cons_zero, List.set_cons_succ]
      refine wpAnyW_take (i := 4) (v := ?_) (by simp only [List.getElem?_toArray, List.getElem?_cons_succ, List.getElem?_cons_zero]; rfl) (by kernel_rfl) (by kernel_rfl) (by kernel_rfl) (by kernel_rfl) (by kernel_rfl) (fun _ _ _ h => h) (Or.inl ⟨by rfl, ?_⟩) (by assumption) ?_
      rotate_left 1
      · (intro w' hSw; go_simp; try with_reducible rfl)
      try simp only [Act.put, List.setIfInBounds_toArray, List.set_cons_zero, List.set_cons_succ]
      refine wpAnyW_take (i := 5) (v := ?_) (by simp only [List.getElem?_toArray, List.getElem?_cons_succ, List.getElem?_cons_zero]; rfl) (by kernel_rfl) (by kernel_rfl) (by kernel_rfl) (by kernel_rfl) (by kernel_rfl) (fun _ _ _ h => h) (Or.inl ⟨by rfl, ?_⟩) (by assumption) ?_
      rotate_left 1
      · (intro w' hSw; have hq := hSw.2.1.cell 1 (.int .i64 x.sz) rfl; go_simp; try with_reducible rfl)
      try simp only [Act.put, List.setIfInBounds_toArray, List.set_cons_zero, List.set_cons_succ]
      refine wpAnyW_take (i := 6) (v := ?_) (by simp only [List.getElem?_toArray, List.getElem?_cons_succ, List.getElem?_cons_zero]; rfl) (by kernel_rfl) (by kernel_rfl) (by kernel_rfl) (by kernel_rfl) (by kernel_rfl) (fun _ _ _ h => h) (Or.inl ⟨by rfl, ?_⟩) (by assumption) ?_
      rotate_left 1
      · (intro w' hSw; go_simp; try with_reducible rfl)
      try simp only [Act.put, List.setIfInBounds_toArray, List.set_cons_zero, List.set_cons_succ]
      refine wpAnyW_takeY (i := 7) (v := ?_) (by simp only [List.getElem?_toArray, List.getElem?_cons_succ, List.getElem?_cons_zero]; rfl) (by kernel_rfl) (by kernel_rfl) (by kernel_rfl) (by kernel_rfl) (fun _ _ _ h => h) (Or.inl ⟨by rfl, ?_⟩) (fun _ => by assumption) ?_
      rotate_left 1
      · (intro w' hSw; go_simp; try with_reducible rfl)
      try simp only [Act.put, List.setIfInBounds_toArray, List.set_cons_zero, List.set_cons_succ]
      refine wpAnyW_take (i := 8) (v := ?_) (by simp only [List.getElem?_toArray, List.getElem?_cons_succ, List.getElem?_cons_zero]; rfl) (by kernel_rfl) (by kernel_rfl) (by kernel_rfl) (by kernel_rfl) (by kernel_rfl) (fun _ _ _ h => h) (Or.inl ⟨by rfl, ?_⟩) (by assumption) ?_
      rotate_left 1
      · (intro w' hSw; go_simp; try with_reducible rfl)
      try simp only [Act.put, List.setIfInBounds_toArray, List.set_cons_zero, List.set_cons_succ]
      refine wpAnyW_freed (i := 9) (by kernel_rfl) (by kernel_rfl) (by simp only [List.getElem?_toArray, List.getElem?_cons_succ, List.getElem?_cons_zero]; rfl) (fun K hK => ?_)
      rw [if_pos (by rfl)]
      refine wpF (ty := 3) (cs := #[.int .i64 r.by', .int .i64 r.out, .bool r.mo, .bool true, .slice A r.dn.length k, .slice none 0 0, (.slice A' r.tk.length k')]) (.int .i64 b1) rfl rfl rfl hHeld.1 (by show 0 < 7; decide) infoI rfl ?_
      intro w5 ht hg heq
      clear heq
      replace hg : w2.grownBy w5 (some gr) := ⟨hg.os, hg.tape, hg.output, hg.size, hg.block⟩
      replace HRA : Hid (RAt w5 gr B { r with by' := b1, fr := true } A k A' k') := Lib.hid (RAt.put (r := { r with fr := true }) (r' := { r with by' := b1, fr := true }) HRA.out hg ht rfl rfl)
      replace HX := Lib.hid (HX.out.kept hg (by omega))
      replace HC := Lib.hid (HC.out.grown hg (fun z hz _ => by cases hz; exact .inl rfl))
      refine hK.out _ _ ?_
      clear hK K ht hg hHeld
      try simp only [Act.put, List.setIfInBounds_toArray, List.set_cons_zero, List.set_cons_succ]
      refine wpAnyW_done (by kernel_rfl) ?_ _
      refine NoPanic.normal ?_
      have t4 := HX.out.cell 4 (.int .i64 x.ti) rfl
      have t6 := HX.out.cell 6 (.int .i64 x.tm) rfl
      go_wp2_with fail
      clear t4 t6
      have HBX := Lib.hid (show Bx w5 gr 42 #[.int .i64 b1, .int .i64 r.out, .bool r.mo, .bool true, .slice A r.dn.length k, .slice none 0 0, (.slice A' r.tk.length k')] from HRA.out.box)
      have HDN := Lib.hid (show OwnG w5 B 22 1 (.slice A r.dn.length k) r.dn.length (r.dn.map enc32) from HRA.out.dn)
      have HTK := Lib.hid (show OwnG w5 B 3 1 (.slice A' r.tk.length k') r.tk.length (r.tk.map encI) from HRA.out.tk)
      have HNE := Lib.hid (show ∀ z, (Value.slice A r.dn.length k).ownBlock = some z → (Value.slice A' r.tk.length k').ownBlock ≠ some z from HRA.out.ne)
      have hgB := HRA.out.lt
      have hBs := HRA.out.bs
      clear HRA
      have HS : (fun V => Bx V gr 42 #[.int .i64 b1, .int .i64 r.out, .bool r.mo, .bool true, .slice A r.dn.length k, .slice none 0 0, (.slice A' r.tk.length k')] ∧ Bx V w.heap.size 58 (cellsPc x)) _ := ⟨HBX.out.drew, HX.out.drew⟩
      refine wp_region_noPanic ?_
      refine wp_region_waits (S := (fun V => Bx V gr 42 #[.int .i64 b1, .int .i64 r.out, .bool r.mo, .bool true, .slice A r.dn.length k, .slice none 0 0, (.slice A' r.tk.length k')] ∧ Bx V w.heap.size 58 (cellsPc x))) [13] (by kernel_rfl) HS (fun hHeld => ?_)
      clear HS
      refine wpAnyW_take (i := 0) (v := ?_) (by simp only [List.getElem?_toArray, List.getElem?_cons_zero]; rfl) (by kernel_rfl) (by kernel_rfl) (by kernel_rfl) (by kernel_rfl) (by kernel_rfl) (fun _ _ _ h => h) (Or.inl ⟨by rfl, ?_⟩) (by assumption) ?_
      rotate_left 1
      · (intro w' hSw; go_simp; try with_reducible rfl)
      try simp only [Act.put, List.setIfInBounds_toArray, List.set_cons_zero, List.set_cons_succ]
      refine wpAnyW_take (i := 1) (v := ?_) (by simp only [List.getElem?_toArray, List.getElem?_cons_succ, List.getElem?_cons_zero]; rfl) (by kernel_rfl) (by kernel_rfl) (by kernel_rfl) (by kernel_rfl) (by kernel_rfl) (fun _ _ _ h => h) (Or.inl ⟨by rfl, ?_⟩) (by assumption) ?_
      rotate_left 1
      · (intro w' hSw; go_simp; try with_reducible rfl)
      try simp only [Act.put, List.setIfInBounds_toArray, List.set_cons_zero, List.set_cons_succ]
      refine wpAnyW_take (i := 2) (v := ?_) (by simp only [List.getElem?_toArray, List.getElem?_cons_succ, List.getElem?_cons_zero]; rfl) (by kernel_rfl) (by kernel_rfl) (by kernel_rfl) (by kernel_rfl) (by kernel_rfl) (fun _ _ _ h => h) (Or.inl ⟨by rfl, ?_⟩) (by assumption) ?_
      rotate_left 1
      · (intro w' hSw; go_simp; try with_reducible rfl)
      try simp only [Act.put, List.setIfInBounds_toArray, List.set_cons_zero, List.set_cons_succ]
      refine wpAnyW_take (i := 3) (v := ?_) (by simp only [List.getElem?_toArray, List.getElem?_cons_succ, List.getElem?_cons_zero]; rfl) (by kernel_rfl) (by kernel_rfl) (by kernel_rfl) (by kernel_rfl) (by kernel_rfl) (fun _ _ _ h => h) (Or.inl ⟨by rfl, ?_⟩) (by assumption) ?_
      rotate_left 1
      · (intro w' hSw; go_simp; try with_reducible rfl)
      try simp only [Act.put, List.setIfInBounds_toArray, List.set_cons_zero, List.set_cons_succ]
      refine wpAnyW_take (i := 4) (v := ?_) (by simp only [List.getElem?_toArray, List.getElem?_cons_succ, List.getElem?_cons_zero]; rfl) (by kernel_rfl) (by kernel_rfl) (by kernel_rfl) (by kernel_rfl) (by kernel_rfl) (fun _ _ _ h => h) (Or.inl ⟨by rfl, ?_⟩) (by assumption) ?_
      rotate_left 1
      · (intro w' hSw; have hq := hSw.1.cell 6 (.slice A' r.tk.length k') rfl; go_simp; try with_reducible rfl)
      try simp only [Act.put, List.setIfInBounds_toArray, List.set_cons_zero, List.set_cons_succ]
      refine wpAnyW_take (i := 5) (v := ?_) (by simp only [List.getElem?_toArray, List.getElem?_cons_succ, List.getElem?_cons_zero]; rfl) (by kernel_rfl) (by kernel_rfl) (by kernel_rfl) (by kernel_rfl) (by kernel_rfl) (fun _ _ _ h => h) (Or.inl ⟨by rfl, ?_⟩) (by assumption) ?_
      rotate_left 1
      · (intro w' hSw; go_simp; try with_reducible rfl)
      try simp only [Act.put, List.setIfInBounds_toArray, List.set_cons_zero, List.set_cons_succ]
      refine wpAnyW_take (i := 6) (v := ?_) (by simp only [List.getElem?_toArray, List.getElem?_cons_succ, List.getElem?_cons_zero]; rfl) (by kernel_rfl) (by kernel_rfl) (by kernel_rfl) (by kernel_rfl) (by kernel_rfl) (fun _ _ _ h => h) (Or.inl ⟨by rfl, ?_⟩) (by assumption) ?_
      rotate_left 1
      · (intro w' hSw; go_simp; try with_reducible rfl)
      try simp only [Act.put, List.setIfInBounds_toArray, List.set_cons_zero, List.set_cons_succ]
      refine wpAnyW_take (i := 7) (v := ?_) (by simp only [List.getElem?_toArray, List.getElem?_cons_succ, List.getElem?_cons_zero]; rfl) (by kernel_rfl) (by kernel_rfl) (by kernel_rfl) (by kernel_rfl) (by kernel_rfl) (fun _ _ _ h => h) (Or.inl ⟨by rfl, ?_⟩) (by assumption) ?_
      rotate_left 1
      · (intro w' hSw; have hq := hSw.2.cell 6 (.int .i64 x.tm) rfl; go_simp; try with_reducible rfl)
      try simp only [Act.put, List.setIfInBounds_toArray, List.set_cons_zero, List.set_cons_succ]
      refine wpAnyW_take (i := 8) (v := ?_) (by simp only [List.getElem?_toArray, List.getElem?_cons_succ, List.getElem?_cons_zero]; rfl) (by kernel_rfl) (by kernel_rfl) (by kernel_rfl) (by kernel_rfl) (by kernel_rfl) (fun _ _ _ h => h) (Or.inl ⟨by rfl, ?_⟩) (by assumption) ?_
      rotate_left 1
      · (intro w' hSw; go_simp; try with_reducible rfl)
      try simp only [Act.put, List.setIfInBounds_toArray, List.set_cons_zero, List.set_cons_succ]
      refine wpAnyW_held (i := 9) (by kernel_rfl) (by simp only [List.getElem?_toArray, List.getElem?_cons_succ, List.getElem?_cons_zero]; rfl) (fun K hK => ?_)
      rw [if_pos (by rfl)]
      go_simp
      have HS : (fun V => Bx V gr 42 #[.int .i64 b1, .int .i64 r.out, .bool r.mo, .bool true, .slice A r.dn.length k, .slice none 0 0, (.slice A' r.tk.length k')] ∧ Bx V w.heap.size 58 (cellsPc x)) _ := ⟨hHeld.1.old (.cells #[.int .i64 y] 3), hHeld.2.old (.cells #[.int .i64 y] 3)⟩
      replace HDN := Lib.hid (HDN.out.drew.alloc (.cells #[.int .i64 y] 3))
      replace HTK := Lib.hid (HTK.out.drew.alloc (.cells #[.int .i64 y] 3))
      replace HC := Lib.hid (HC.out.drew.below (below_one _ (.cells #[.int .i64 y] 3)))
      refine hK.out _ _ HS (fun hHeld => ?_)
      clear hK K HS HBX HX
      try simp only [Act.put, List.setIfInBounds_toArray, List.set_cons_zero, List.set_cons_succ]
      refine wpAnyW_held (i := 10) (by kernel_rfl) (by simp only [List.getElem?_toArray, List.getElem?_cons_succ, List.getElem?_cons_zero]; rfl) (fun K hK => ?_)
      refine step_append_where _ rfl (.tmp 31) (.tmp 36) 40 40 rfl B (by simp; omega) 3 i0 _ 1 8 Try.underlying40 (.inr ⟨_, Try.underlying40⟩) HI.out HZ0.out HZ1.out HZ2.out rfl _ _ _ rfl HTK.out _ 1 [.int .i64 y] rfl (Fed.block (heap_alloc_new _ _) rfl (one_i64 _)) (by unfold maxLen; omega) (by omega) ?_
      intro v8 w8 hown hgr hwh
      have HS : (fun V => Bx V gr 42 #[.int .i64 b1, .int .i64 r.out, .bool r.mo, .bool true, .slice A r.dn.length k, .slice none 0 0, (.slice A' r.tk.length k')] ∧ Bx V w.heap.size 58 (cellsPc x)) _ := ⟨(hgr.block _ hHeld.1.lt (by intro e; have := (HTK.out.lt _ e.symm).1; omega)).trans hHeld.1, (hgr.block _ hHeld.2.lt (by intro e; have := HLT.out _ e.symm; omega)).trans hHeld.2⟩
      have hs8 : w.heap.size ≤ (w5.drew.alloc (.cells #[.int .i64 y] 3)).heap.size := Nat.le_trans (by omega) (Nat.le_of_lt hHeld.2.lt)
      replace HDN := Lib.hid (HDN.out.keep (fun z hz => hgr.block z (HDN.out.lt z hz).2 (fun e => HNE.out z hz e.symm)))
      have HDL := Lib.hid (fun z (hz : (Value.slice A r.dn.length k).ownBlock = some z) => HDL0.out z hz)
      have HWH : Hid (∀ z, v8.ownBlock = some z → (Value.slice A' r.tk.length k').ownBlock = some z ∨ w.heap.size ≤ z) := Lib.hid (fun z hz => (hwh z hz).imp id (fun e => by rw [e]; exact hs8))
      replace HC := Lib.hid (HC.out.grown hgr (fun z hz _ => .inr hz))
      have hBs8 : B ≤ w8.heap.size := Nat.le_trans (Nat.le_trans hBw hs8) hgr.size
      obtain ⟨A2, k2, rfl, -, -, -⟩ := id hown.slice
      have HO8 := Lib.hid hown
      clear hown hgr hwh hHeld HTK hs8 HNE
      try simp only [Act.put, List.setIfInBounds_toArray, List.set_cons_zero, List.set_cons_succ]
      refine hK.out _ _ HS (fun hHeld => ?_)
      clear hK K HS
      try simp only [Act.put, List.setIfInBounds_toArray, List.set_cons_zero, List.set_cons_succ]
      refine wpAnyW_takeY (i := 11) (v := ?_) (by simp only [List.getElem?_toArray, List.getElem?_cons_succ, List.getElem?_cons_zero]; rfl) (by kernel_rfl) (by kernel_rfl) (by kernel_rfl) (by kernel_rfl) (fun _ _ _ h => h) (Or.inl ⟨by rfl, ?_⟩) (fun _ => by assumption) ?_
      rotate_left 1
      · (intro w' hSw; go_simp; try with_reducible rfl)
      try simp only [Act.put, List.setIfInBounds_toArray, List.set_cons_zero, List.set_cons_succ]
      refine wpAnyW_take (i := 12) (v := ?_) (by simp only [List.getElem?_toArray, List.getElem?_cons_succ, List.getElem?_cons_zero]; rfl) (by kernel_rfl) (by kernel_rfl) (by kernel_rfl) (by kernel_rfl) (by kernel_rfl) (fun _ _ _ h => h) (Or.inl ⟨by rfl, ?_⟩) (by assumption) ?_
      rotate_left 1
      · (intro w' hSw; go_simp; try with_reducible rfl)
      try simp only [Act.put, List.setIfInBounds_toArray, List.set_cons_zero, List.set_cons_succ]
      refine wpAnyW_freed (i := 13) (by kernel_rfl) (by kernel_rfl) (by simp only [List.getElem?_toArray, List.getElem?_cons_succ, List.getElem?_cons_zero]; rfl) (fun K hK => ?_)
      rw [if_pos (by rfl)]
      refine wpF (ty := 40) (cs := #[.int .i64 b1, .int .i64 r.out, .bool r.mo, .bool true, .slice A r.dn.length k, .slice none 0 0, (.slice A' r.tk.length k')]) (.slice A2 (r.tk.length + 1) k2) rfl rfl rfl hHeld.1 (by show 6 < 7; decide) infoSI rfl ?_
      intro w9 ht hg heq
      clear heq
      replace HDN := Lib.hid (HDN.out.keep (fun z hz => hg.block z (HDN.out.lt z hz).2 (by intro e; cases e; have := (HDN.out.lt _ hz).1; omega)))
      replace HO8 := Lib.hid (HO8.out.keep (fun z hz => hg.block z (HO8.out.lt z hz).2 (by intro e; cases e; have := (HO8.out.lt _ hz).1; omega)))
      replace HC := Lib.hid (HC.out.grown hg (fun z hz _ => by cases hz; exact .inl rfl))
      have HBX : Hid (Bx w9 gr 42 #[.int .i64 b1, .int .i64 r.out, .bool r.mo, .bool true, .slice A r.dn.length k, .slice none 0 0, .slice A2 (r.tk.length + 1) k2]) := Lib.hid ht
      have hBs9 : B ≤ w9.heap.size := Nat.le_trans hBs8 hg.size
      refine hK.out _ _ ?_
      clear hK K ht hg hHeld
      try simp only [Act.put, List.setIfInBounds_toArray, List.set_cons_zero, List.set_cons_succ]
      refine wpAnyW_done (by kernel_rfl) ?_ _
      refine NoPanic.normal ?_
      go_wp2_with fail
      refine bodyPost_end (results_none rfl _ _ _) rfl ?_
      rw [HR.out]
      have el : (r.tk ++ [y]).length = r.tk.length + 1 := by simp
      refine ⟨A2, k2, rfl, ⟨?_, HDN.out, ?_, ?_, hgB, hBs9⟩, HC.out, ?_⟩
      · show Bx w9 gr 42 #[.int .i64 b1, .int .i64 r.out, .bool r.mo, .bool true, .slice A r.dn.length k, .slice none 0 0, .slice A2 (r.tk ++ [y]).length k2]
        rw [el]; exact HBX.out
      · show OwnG w9 B 3 1 (.slice A2 (r.tk ++ [y]).length k2) (r.tk ++ [y]).length ((r.tk ++ [y]).map encI)
        rw [el, List.map_append]; exact HO8.out
      · show ∀ z, (Value.slice A r.dn.length k).ownBlock = some z → (Value.slice A2 (r.tk ++ [y]).length k2).ownBlock ≠ some z
        rw [el]
        intro z hz e
        rcases HWH.out z e with h9 | h9
        · exact HNE0.out z hz h9
        · have := HDL.out z hz; omega
      · show ∀ z, (Value.slice A2 (r.tk ++ [y]).length k2).ownBlock = some z → _
        rw [el]; exact HWH.out
    · replace HR := Lib.hid (HR.out.symm.trans (tellR_no (r := r) (now := now) (x := x) (by omega)))
      rw [hb1e] at HR
      have q1 : (x.ti == 1) = true := by rw [hti]; rfl
      clear hti
      go_enter Try.func21, Try.ntmps21
      go_wp2_with ((with_reducible refine gate9 ?_); refine stF (cs := #[.int .i64 r.by', .int .i64 r.out, .bool r.mo, .bool r.fr, .slice A r.dn.length k, .slice none 0 0, (.slice A' r.tk.length k')]) (.bool true) rfl rfl rfl rfl HRA.out.box (by show 3 < 7; decide) infoB rfl ?_; intro w2 ht hg; replace HX := Lib.hid (HX.out.kept hg (by omega)); replace HC := Lib.hid (HC.out.grown hg (fun z hz _ => by cases hz; exact .inl rfl)); replace HRA : Hid (RAt w2 gr B { r with fr := true } A k A' k') := Lib.hid (RAt.put (r' := { r with fr := true }) HRA.out hg ht rfl rfl); clear ht hg)
      have HS : (fun V => Bx V gr 42 #[.int .i64 r.by', .int .i64 r.out, .bool r.mo, .bool true, .slice A r.dn.length k, .slice none 0 0, (.slice A' r.tk.length k')] ∧ Bx V w.heap.size 58 (cellsPc x) ∧ w.heap.size < V.heap.size) _ := ⟨HRA.out.box.drew, HX.out.drew, HX.out.drew.lt⟩
      have hr1 : IntKind.i64.wrap b1 = b1 := by rw [IntKind.wrap_i64]; omega
      refine wp_region_noPanic ?_
      refine wp_region_waits (S := (fun V => Bx V gr 42 #[.int .i64 r.by', .int .i64 r.out, .bool r.mo, .bool true, .slice A r.dn.length k, .slice none 0 0, (.slice A' r.tk.length k')] ∧ Bx V w.heap.size 58 (cellsPc x) ∧ w.heap.size < V.heap.size)) [9] (by kernel_rfl) HS (fun hHeld => ?_)
      clear HS
      refine wpAnyW_take (i := 0) (v := ?_) (by simp only [List.getElem?_toArray, List.getElem?_cons_zero]; rfl) (by kernel_rfl) (by kernel_rfl) (by kernel_rfl) (by kernel_rfl) (by kernel_rfl) (fun _ _ _ h => h) (Or.inl ⟨by rfl, ?_⟩) (by assumption) ?_
      rotate_left 1
      · (intro w' hSw; go_simp; try with_reducible rfl)
      try simp only [Act.put, List.setIfInBounds_toArray, List.set_cons_zero, List.set_cons_succ]
      refine wpAnyW_take (i := 1) (v := ?_) (by simp only [List.getElem?_toArray, List.getElem?_cons_succ, List.getElem?_cons_zero]; rfl) (by kernel_rfl) (by kernel_rfl) (by kernel_rfl) (by kernel_rfl) (by kernel_rfl) (fun _ _ _ h => h) (Or.inl ⟨by rfl, ?_⟩) (by assumption) ?_
      rotate_left 1
      · (intro w' hSw; go_simp; try with_reducible rfl)
      try simp only [Act.put, List.setIfInBounds_toArray, List.set_cons_zero, List.set_cons_succ]
      refine wpAnyW_take (i := 2) (v := ?_) (by simp only [List.getElem?_toArray, List.getElem?_cons_succ, List.getElem?_cons_zero]; rfl) (by kernel_rfl) (by kernel_rfl) (by kernel_rfl) (by kernel_rfl) (by kernel_rfl) (fun _ _ _ h => h) (Or.inl ⟨by rfl, ?_⟩) (by assumption) ?_
      rotate_left 1
      · (intro w' hSw; go_simp; try with_reducible rfl)
      try simp only [Act.put, List.setIfInBounds_toArray, List.set_cons_zero, List.set_cons_succ]
      refine wpAnyW_take (i := 3) (v := ?_) (by simp only [List.getElem?_toArray, List.getElem?_cons_succ, List.getElem?_cons_zero]; rfl) (by kernel_rfl) (by kernel_rfl) (by kernel_rfl) (by kernel_rfl) (by kernel_rfl) (fun _ _ _ h => h) (Or.inl ⟨by rfl, ?_⟩) (by assumption) ?_
      rotate_left 1
      · (intro w' hSw; have hq := hSw.1.cell 0 (.int .i64 r.by') rfl; go_simp; try with_reducible rfl)
      try simp only [Act.put, List.setIfInBounds_toArray, List.set_cons_zero, List.set_cons_succ]
      refine wpAnyW_take (i := 4) (v := ?_) (by simp only [List.getElem?_toArray, List.getElem?_cons_succ, List.getElem?_cons_zero]; rfl) (by kernel_rfl) (by kernel_rfl) (by kernel_rfl) (by kernel_rfl) (by kernel_rfl) (fun _ _ _ h => h) (Or.inl ⟨by rfl, ?_⟩) (by assumption) ?_
      rotate_left 1
      · (intro w' hSw; go_simp; try with_reducible rfl)
      try simp only [Act.put, List.setIfInBounds_toArray, List.set_cons_zero, List.set_cons_succ]
      refine wpAnyW_take (i := 5) (v := ?_) (by simp only [List.getElem?_toArray, List.getElem?_cons_succ, List.getElem?_cons_zero]; rfl) (by kernel_rfl) (by kernel_rfl) (by kernel_rfl) (by kernel_rfl) (by kernel_rfl) (fun _ _ _ h => h) (Or.inl ⟨by rfl, ?_⟩) (by assumption) ?_
      rotate_left 1
      · (intro w' hSw; have hq := hSw.2.1.cell 1 (.int .i64 x.sz) rfl; go_simp; try with_reducible rfl)
      try simp only [Act.put, List.setIfInBounds_toArray, List.set_cons_zero, List.set_cons_succ]
      refine wpAnyW_take (i := 6) (v := ?_) (by simp only [List.getElem?_toArray, List.getElem?_cons_succ, List.getElem?_cons_zero]; rfl) (by kernel_rfl) (by kernel_rfl) (by kernel_rfl) (by kernel_rfl) (by kernel_rfl) (fun _ _ _ h => h) (Or.inl ⟨by rfl, ?_⟩) (by assumption) ?_
      rotate_left 1
      · (intro w' hSw; go_simp; try with_reducible rfl)
      try simp only [Act.put, List.setIfInBounds_toArray, List.set_cons_zero, List.set_cons_succ]
      refine wpAnyW_takeY (i := 7) (v := ?_) (by simp only [List.getElem?_toArray, List.getElem?_cons_succ, List.getElem?_cons_zero]; rfl) (by kernel_rfl) (by kernel_rfl) (by kernel_rfl) (by kernel_rfl) (fun _ _ _ h => h) (Or.inl ⟨by rfl, ?_⟩) (fun _ => by assumption) ?_
      rotate_left 1
      · (intro w' hSw; go_simp; try with_reducible rfl)
      try simp only [Act.put, List.setIfInBounds_toArray, List.set_cons_zero, List.set_cons_succ]
      refine wpAnyW_take (i := 8) (v := ?_) (by simp only [List.getElem?_toArray, List.getElem?_cons_succ, List.getElem?_cons_zero]; rfl) (by kernel_rfl) (by kernel_rfl) (by kernel_rfl) (by kernel_rfl) (by kernel_rfl) (fun _ _ _ h => h) (Or.inl ⟨by rfl, ?_⟩) (by assumption) ?_
      rotate_left 1
      · (intro w' hSw; go_simp; try with_reducible rfl)
      try simp only [Act.put, List.setIfInBounds_toArray, List.set_cons_zero, List.set_cons_succ]
      refine wpAnyW_freed (i := 9) (by kernel_rfl) (by kernel_rfl) (by simp only [List.getElem?_toArray, List.getElem?_cons_succ, List.getElem?_cons_zero]; rfl) (fun K hK => ?_)
      rw [if_pos (by rfl)]
      refine wpF (ty := 3) (cs := #[.int .i64 r.by', .int .i64 r.out, .bool r.mo, .bool true, .slice A r.dn.length k, .slice none 0 0, (.slice A' r.tk.length k')]) (.int .i64 b1) rfl rfl rfl hHeld.1 (by show 0 < 7; decide) infoI rfl ?_
      intro w5 ht hg heq
      clear heq
      replace hg : w2.grownBy w5 (some gr) := ⟨hg.os, hg.tape, hg.output, hg.size, hg.block⟩
      replace HRA : Hid (RAt w5 gr B { r with by' := b1, fr := true } A k A' k') := Lib.hid (RAt.put (r := { r with fr := true }) (r' := { r with by' := b1, fr := true }) HRA.out hg ht rfl rfl)
      replace HX := Lib.hid (HX.out.kept hg (by omega))
      replace HC := Lib.hid (HC.out.grown hg (fun z hz _ => by cases hz; exact .inl rfl))
      refine hK.out _ _ ?_
      clear hK K ht hg hHeld
      try simp only [Act.put, List.setIfInBounds_toArray, List.set_cons_zero, List.set_cons_succ]
      refine wpAnyW_done (by kernel_rfl) ?_ _
      refine NoPanic.normal ?_
      have t4 := HX.out.cell 4 (.int .i64 x.ti) rfl
      have t6 := HX.out.cell 6 (.int .i64 x.tm) rfl
      go_wp2_with fail
      refine bodyPost_end (results_none rfl _ _ _) rfl ?_
      rw [HR.out]
      exact ⟨A', k', rfl, HRA.out, HC.out, fun z hz => .inl hz⟩
  · replace HR := Lib.hid (HR.out.symm.trans (tellR_no (r := r) (now := now) (x := x) (by omega)))
    rw [hb1e] at HR
    have q1 : (x.ti == 1) = false := by rw [beq_eq_false_iff_ne]; exact hti
    clear hti
    go_enter Try.func21, Try.ntmps21
    go_wp2_with ((with_reducible refine gate9 ?_); refine stF (cs := #[.int .i64 r.by', .int .i64 r.out, .bool r.mo, .bool r.fr, .slice A r.dn.length k, .slice none 0 0, (.slice A' r.tk.length k')]) (.bool true) rfl rfl rfl rfl HRA.out.box (by show 3 < 7; decide) infoB rfl ?_; intro w2 ht hg; replace HX := Lib.hid (HX.out.kept hg (by omega)); replace HC := Lib.hid (HC.out.grown hg (fun z hz _ => by cases hz; exact .inl rfl)); replace HRA : Hid (RAt w2 gr B { r with fr := true } A k A' k') := Lib.hid (RAt.put (r' := { r with fr := true }) HRA.out hg ht rfl rfl); clear ht hg)
    have HS : (fun V => Bx V gr 42 #[.int .i64 r.by', .int .i64 r.out, .bool r.mo, .bool true, .slice A r.dn.length k, .slice none 0 0, (.slice A' r.tk.length k')] ∧ Bx V w.heap.size 58 (cellsPc x) ∧ w.heap.size < V.heap.size) _ := ⟨HRA.out.box.drew, HX.out.drew, HX.out.drew.lt⟩
    have hr1 : IntKind.i64.wrap b1 = b1 := by rw [IntKind.wrap_i64]; omega
    refine wp_region_noPanic ?_
    refine wp_region_waits (S := (fun V => Bx V gr 42 #[.int .i64 r.by', .int .i64 r.out, .bool r.mo, .bool true, .slice A r.dn.length k, .slice none 0 0, (.slice A' r.tk.length k')] ∧ Bx V w.heap.size 58 (cellsPc x) ∧ w.heap.size < V.heap.size)) [9] (by kernel_rfl) HS (fun hHeld => ?_)
    clear HS
    refine wpAnyW_take (i := 0) (v := ?_) (by simp only [List.getElem?_toArray, List.getElem?_cons_zero]; rfl) (by kernel_rfl) (by kernel_rfl) (by kernel_rfl) (by kernel_rfl) (by kernel_rfl) (fun _ _ _ h => h) (Or.inl ⟨by rfl, ?_⟩) (by assumption) ?_
    rotate_left 1
    · (intro w' hSw; go_simp; try with_reducible rfl)
    try simp only [Act.put, List.setIfInBounds_toArray, List.set_cons_zero, List.set_cons_succ]
    refine wpAnyW_take (i := 1) (v := ?_) (by simp only [List.getElem?_toArray, List.getElem?_cons_succ, List.getElem?_cons_zero]; rfl) (by kernel_rfl) (by kernel_rfl) (by kernel_rfl) (by kernel_rfl) (by kernel_rfl) (fun _ _ _ h => h) (Or.inl ⟨by rfl, ?_⟩) (by assumption) ?_
    rotate_left 1
    · (intro w' hSw; go_simp; try with_reducible rfl)
    try simp only [Act.put, List.setIfInBounds_toArray, List.set_cons_zero, List.set_cons_succ]
    refine wpAnyW_take (i := 2) (v := ?_) (by simp only [List.getElem?_toArray, List.getElem?_cons_succ, List.getElem?_cons_zero]; rfl) (by kernel_rfl) (by kernel_rfl) (by kernel_rfl) (by kernel_rfl) (by kernel_rfl) (fun _ _ _ h => h) (Or.inl ⟨by rfl, ?_⟩) (by assumption) ?_
    rotate_left 1
    · (intro w' hSw; go_simp; try with_reducible rfl)
    try simp only [Act.put, List.setIfInBounds_toArray, List.set_cons_zero, List.set_cons_succ]
    refine wpAnyW_take (i := 3) (v := ?_) (by simp only [List.getElem?_toArray, List.getElem?_cons_succ, List.getElem?_cons_zero]; rfl) (by kernel_rfl) (by kernel_rfl) (by kernel_rfl) (by kernel_rfl) (by kernel_rfl) (fun _ _ _ h => h) (Or.inl ⟨by rfl, ?_⟩) (by assumption) ?_
    rotate_left 1
    · (intro w' hSw; have hq := hSw.1.cell 0 (.int .i64 r.by') rfl; go_simp; try with_reducible rfl)
    try simp only [Act.put, List.setIfInBounds_toArray, List.set_cons_zero, List.set_cons_succ]
    refine wpAnyW_take (i := 4) (v := ?_) (by simp only [List.getElem?_toArray, List.getElem?_cons_succ, List.getElem?_cons_zero]; rfl) (by kernel_rfl) (by kernel_rfl) (by kernel_rfl) (by kernel_rfl) (by kernel_rfl) (fun _ _ _ h => h) (Or.inl ⟨by rfl, ?_⟩) (by assumption) ?_
    rotate_left 1
    · (intro w' hSw; go_simp; try with_reducible rfl)
    try simp only [Act.put, List.setIfInBounds_toArray, List.set_cons_zero, List.set_cons_succ]
    refine wpAnyW_take (i := 5) (v := ?_) (by simp only [List.getElem?_toArray, List.getElem?_cons_succ, List.getElem?_cons_zero]; rfl) (by kernel_rfl) (by kernel_rfl) (by kernel_rfl) (by kernel_rfl) (by kernel_rfl) (fun _ _ _ h => h) (Or.inl ⟨by rfl, ?_⟩) (by assumption) ?_
    rotate_left 1
    · (intro w' hSw; have hq := hSw.2.1.cell 1 (.int .i64 x.sz) rfl; go_simp; try with_reducible rfl)
    try simp only [Act.put, List.setIfInBounds_toArray, List.set_cons_zero, List.set_cons_succ]
    refine wpAnyW_take (i := 6) (v := ?_) (by simp only [List.getElem?_toArray, List.getElem?_cons_succ, List.getElem?_cons_zero]; rfl) (by kernel_rfl) (by kernel_rfl) (by kernel_rfl) (by kernel_rfl) (by kernel_rfl) (fun _ _ _ h => h) (Or.inl ⟨by rfl, ?_⟩) (by assumption) ?_
    rotate_left 1
    · (intro w' hSw; go_simp; try with_reducible rfl)
    try simp only [Act.put, List.setIfInBounds_toArray, List.set_cons_zero, List.set_cons_succ]
    refine wpAnyW_takeY (i := 7) (v := ?_) (by simp only [List.getElem?_toArray, List.getElem?_cons_succ, List.getElem?_cons_zero]; rfl) (by kernel_rfl) (by kernel_rfl) (by kernel_rfl) (by kernel_rfl) (fun _ _ _ h => h) (Or.inl ⟨by rfl, ?_⟩) (fun _ => by assumption) ?_
    rotate_left 1
    · (intro w' hSw; go_simp; try with_reducible rfl)
    try simp only [Act.put, List.setIfInBounds_toArray, List.set_cons_zero, List.set_cons_succ]
    refine wpAnyW_take (i := 8) (v := ?_) (by simp only [List.getElem?_toArray, List.getElem?_cons_succ, List.getElem?_cons_zero]; rfl) (by kernel_rfl) (by kernel_rfl) (by kernel_rfl) (by kernel_rfl) (by kernel_rfl) (fun _ _ _ h => h) (Or.inl ⟨by rfl, ?_⟩) (by assumption) ?_
    rotate_left 1
    · (intro w' hSw; go_simp; try with_reducible rfl)
    try simp only [Act.put, List.setIfInBounds_toArray, List.set_cons_zero, List.set_cons_succ]
    refine wpAnyW_freed (i := 9) (by kernel_rfl) (by kernel_rfl) (by simp only [List.getElem?_toArray, List.getElem?_cons_succ, List.getElem?_cons_zero]; rfl) (fun K hK => ?_)
    rw [if_pos (by rfl)]
    refine wpF (ty := 3) (cs := #[.int .i64 r.by', .int .i64 r.out, .bool r.mo, .bool true, .slice A r.dn.length k, .slice none 0 0, (.slice A' r.tk.length k')]) (.int .i64 b1) rfl rfl rfl hHeld.1 (by show 0 < 7; decide) infoI rfl ?_
    intro w5 ht hg heq
    clear heq
    replace hg : w2.grownBy w5 (some gr) := ⟨hg.os, hg.tape, hg.output, hg.size, hg.block⟩
    replace HRA : Hid (RAt w5 gr B { r with by' := b1, fr := true } A k A' k') := Lib.hid (RAt.put (r := { r with fr := true }) (r' := { r with by' := b1, fr := true }) HRA.out hg ht rfl rfl)
    replace HX := Lib.hid (HX.out.kept hg (by omega))
    replace HC := Lib.hid (HC.out.grown hg (fun z hz _ => by cases hz; exact .inl rfl))
    refine hK.out _ _ ?_
    clear hK K ht hg hHeld
    try simp only [Act.put, List.setIfInBounds_toArray, List.set_cons_zero, List.set_cons_succ]
    refine wpAnyW_done (by kernel_rfl) ?_ _
    refine NoPanic.normal ?_
    have t4 := HX.out.cell 4 (.int .i64 x.ti) rfl
    have t6 := HX.out.cell 6 (.int .i64 x.tm) rfl
    go_wp2_with fail
    refine bodyPost_end (results_none rfl _ _ _) rfl ?_
    rw [HR.out]
    exact ⟨A', k', rfl, HRA.out, HC.out, fun z hz => .inl hz⟩
end Go.Proofs.Ytpgdofhnpiefjaa
