/-
  Package order: copies, and messages in their row: contracts.
-/
import Derived.Test.YtondgdacjbfihaaOa
import Derived.Deep.RegionLawGrows
import Derived.ArgAppend
namespace Go.Proofs.Ytondgdacjbfihaa
open Go.RowKit
set_option linter.unusedVariables false
set_option linter.unusedSimpArgs false
set_option maxRecDepth 100000

/-- What append is fed with: paths that lie in a row. -/
theorem fedM {w : World} {a : Addr} {cap : Nat} {l : List Mg} (h : RowM w (.slice (some a) l.length cap) l) : ∀ j u, (flatM l)[j]? = some u → w.cell? (a.add j) = some u := by
  obtain ⟨A', cap', hv, _, _, hc⟩ := h
  cases hv
  intro j u hu
  have hj : j < l.length * 6 := by have := (List.getElem?_eq_some_iff.1 hu).1; rw [flatM_length] at this; exact this
  obtain ⟨b, off, e, hlt, hcell⟩ := hc (by omega)
  cases e
  rw [addr_plain]
  have hj2 : j / 6 < l.length := by omega
  have hjm : j % 6 < 6 := Nat.mod_lt _ (by omega)
  have e1 : j = j / 6 * 6 + j % 6 := by omega
  have hu' : (cellsMg l[j / 6]).toList[j % 6]? = some u := by rw [← flatM_at l (j / 6) (j % 6) hj2 hjm, ← e1]; exact hu
  have := hcell (j / 6) hj2 (j % 6) u hu'
  rw [Nat.add_assoc, ← e1] at this
  exact this
set_option maxHeartbeats 1000000 in
theorem clone_any (l : List Mg) (hl : l.length ≤ 100000) (v : Value) (w : World) (h : RowM w v l) :
    Calls Try.prog 33 #[v] w fun e w' => ∃ v', e = .returned v' ∧ w'.ownsRow w.heap.size 40 6 v' l.length (flatM l) ∧ Below w.heap.size w w' := by
  obtain ⟨A, cap, rfl, hcap, hmax, hcells⟩ := id h
  have q22 : ∀ (w : World) (a : Option Addr) (n c n' c' : Nat), (binOp .eql 25 (.slice a n c) (.slice none n' c')).run Try.prog w = .ok (.bool a.isNone) w := fun w a n c n' c' => Lib.run_eql_slice_nil w _ _ a n c n' c' Try.underlying25
  by_cases hA : A = none
  · subst hA
    have h0 : l.length = 0 := by
      by_cases h1 : 0 < l.length
      · obtain ⟨b, off, e, _⟩ := hcells h1
        cases e
      · omega
    obtain rfl : l = [] := List.eq_nil_of_length_eq_zero h0
    clear h hcells
    go_enter Try.func33, Try.ntmps33
    go_wp2_with fail
    go_ret
    exact ⟨_, rfl, ⟨rfl, .inl ⟨rfl, rfl⟩⟩, Below.refl _ _⟩
  · obtain ⟨a, rfl⟩ := Option.ne_none_iff_exists'.1 hA
    obtain ⟨i0, hi0, hz0, hz1, hz2⟩ := info_parts infoMZ
    have HI := Lib.hid hi0
    have HZ0 := Lib.hid hz0
    have HZ1 := Lib.hid hz1
    have HZ2 := Lib.hid hz2
    have HF := Lib.hid (fedM (h.below ((Below.refl w.heap.size w).alloc (Nat.le_refl _) (.cells #[] 40))))
    clear h hcells hi0 hz0 hz1 hz2 hA
    have HO := Lib.hid (World.ownsRow_lit w (base := w.heap.size) (e := 40) (size := 6) #[] 0 (Nat.le_refl _) (Nat.zero_le _) rfl)
    have HL := Lib.hid (flatM_length l)
    have H1 := Lib.hid (flatM_one l)
    go_enter Try.func33, Try.ntmps33
    go_wp2_with (at_builtin; refine wpList_append_own _ rfl _ _ 25 rfl w.heap.size 40 i0 _ 6 32 Try.underlying25 HI.out HZ0.out HZ1.out HZ2.out rfl (by decide) _ 0 [] rfl HO.out a l.length cap _ rfl HL.out HF.out H1.out ?c3 ?c4 ?c5 ?_)
    case c3 => unfold maxLen; omega
    case c4 => omega
    intro v' w1 hown hgrow _
    have HO2 := Lib.hid hown
    have HB := Lib.hid (((Below.refl w.heap.size w).alloc (Nat.le_refl _) (.cells #[] 40)).grown hgrow (by rw [World.size_alloc]; omega) (fun k hk => by cases hk; exact Nat.le_refl _))
    clear hown hgrow
    go_wp2_with fail
    go_ret
    exact ⟨_, rfl, by have := HO2.out; simpa using this, HB.out⟩
theorem own_form2 {w : World} {base size n : Nat} {e : TypeId} {v : Value} {xs : List Value} (h : w.ownsRow base e size v n xs) : ∃ A cap, v = .slice A n cap ∧ n ≤ cap ∧ cap ≤ maxLen := by
  obtain ⟨A, cap, h1, h2, h3, _⟩ := own_slice h
  exact ⟨A, cap, h1, h2, h3⟩
theorem ownM_keep {w w' : World} {B size n : Nat} {T : TypeId} {v : Value} {xs : List Value} {k : Nat} (h : w.ownsRow B T size v n xs) (hg : w.grownBy w' (some k)) (hk : k < B) : w'.ownsRow B T size v n xs := by
  refine ⟨h.1, ?_⟩
  rcases h.2 with h0 | ⟨g, cap, cur, rfl, hB, hh, r⟩
  · exact .inl h0
  · exact .inr ⟨g, cap, cur, rfl, hB, (hg.block g (Array.getElem?_eq_some_iff.1 hh).1 (by simp; omega)).trans hh, r⟩
theorem ownsCh {S : Nat → Prop} {w w' : World} {B size n : Nat} {T : TypeId} {v : Value} {xs : List Value} (h : w.ownsRow B T size v n xs) (hc : Ch S w w') (hk : ∀ k, S k → k < B) : w'.ownsRow B T size v n xs := by
  refine ⟨h.1, ?_⟩
  rcases h.2 with h0 | ⟨g, cap, cur, rfl, hB, hh, r⟩
  · exact .inl h0
  · exact .inr ⟨g, cap, cur, rfl, hB, (hc.block g (Array.getElem?_eq_some_iff.1 hh).1 (fun hs => by have := hk g hs; omega)).trans hh, r⟩
section
variable {P : Program} {ops : Array Oper} {rest : List Oper} {o : Oper} {a : Act} {w : World} {Q : Exit → Act → World → Prop}
/-- A piece of a row is loaded. -/
theorem ldMg {ty : TypeId} {x : Operand} {g i : Nat} {z : Mg} {d : TypeDesc} (hgd : o.guard = none) (ho : o.op = .load ty x) (hx : a.eval x = .pointer (some ⟨g, i, none⟩)) (h : w.rangeAt g i (cellsMg z).toList)
    (hu : P.underlying ty = some d) (hd : d.isRow = true) (hi : (P.info? ty).map (·.size) = some 6)
    (hk : wpList P ops Q rest (a.put o.dst (.agg (cellsMg z))) w) : wpList P ops Q (o :: rest) a w :=
  ldP hgd ho hx h hu hd hi (by simpa using hk)
theorem yMg {S : World → Prop} {op : Oper} {ty : TypeId} {x : Operand} {g i : Nat} {z : Mg} {d : TypeDesc} (hw : Region.wanted op (yielded ops a.tmps) = true) (ho : op.op = .load ty x) (hx : a.eval x = .pointer (some ⟨g, i, none⟩)) (hS : ∀ w, S w → w.rangeAt g i (cellsMg z).toList)
    (hu : P.underlying ty = some d) (hd : d.isRow = true) (hi : (P.info? ty).map (·.size) = some 6) : YieldsIf P ops S op (.agg (cellsMg z)) a := by
  have := yieldsIf_load_mid (P := P) (ops := ops) (S := S) hw ty x ho g i hx (cellsMg z).toList d hS hu hd hi
  simpa using this
end
/-- Row l of v, by place. -/
theorem RowM.at {w : World} {v : Value} {l : List Mg} (h : RowM w v l) {j : Nat} (hj : j < l.length) : ∃ b off cap, v = .slice (some ⟨b, off, none⟩) l.length cap ∧ b < w.heap.size ∧ l.length ≤ cap ∧ cap ≤ maxLen ∧ w.rangeAt b (off + j * 6) (cellsMg l[j]).toList := by
  obtain ⟨A, cap, rfl, h1, h2, h3⟩ := h
  obtain ⟨b, off, rfl, hb, hc⟩ := h3 (by omega)
  exact ⟨b, off, cap, rfl, hb, h1, h2, hc j hj⟩
theorem fedE {w : World} {a : Addr} {cap : Nat} {l : List UInt16} (h : RowE enc16 w (.slice (some a) l.length cap) l) : ∀ j u, (l.map enc16)[j]? = some u → w.cell? (a.add j) = some u := by
  obtain ⟨A', cap', hv, _, _, hc⟩ := h
  cases hv
  intro j u hu
  have hj : j < l.length := by have := (List.getElem?_eq_some_iff.1 hu).1; simpa using this
  obtain ⟨b, off, e, hlt, hcell⟩ := hc (by omega)
  cases e
  rw [addr_plain, hcell j hj, ← hu, List.getElem?_map, List.getElem?_eq_getElem hj, getElem!_pos l j hj]
  rfl
theorem oneE (l : List UInt16) : ∀ u ∈ l.map enc16, u.oneCell' = true := by
  intro u hu
  obtain ⟨x, _, rfl⟩ := List.mem_map.1 hu
  rfl
theorem clone16 (l : List UInt16) (hl : l.length ≤ 1000000) (v : Value) (w : World) (h : RowE enc16 w v l) :
    Calls Try.prog 32 #[v] w fun e w' => ∃ v', e = .returned v' ∧ w'.ownsRow w.heap.size 38 1 v' l.length (l.map enc16) ∧ Below w.heap.size w w' := by
  obtain ⟨A, cap, rfl, hcap, hmax, hcells⟩ := id h
  have q22 : ∀ (w : World) (a : Option Addr) (n c n' c' : Nat), (binOp .eql 24 (.slice a n c) (.slice none n' c')).run Try.prog w = .ok (.bool a.isNone) w := fun w a n c n' c' => Lib.run_eql_slice_nil w _ _ a n c n' c' Try.underlying24
  by_cases hA : A = none
  · subst hA
    have h0 : l.length = 0 := by
      by_cases h1 : 0 < l.length
      · obtain ⟨b, off, e, _⟩ := hcells h1
        cases e
      · omega
    obtain rfl : l = [] := List.eq_nil_of_length_eq_zero h0
    clear h hcells
    go_enter Try.func32, Try.ntmps32
    go_wp2_with fail
    go_ret
    exact ⟨_, rfl, ⟨rfl, .inl ⟨rfl, rfl⟩⟩, Below.refl _ _⟩
  · obtain ⟨a, rfl⟩ := Option.ne_none_iff_exists'.1 hA
    obtain ⟨i0, hi0, hz0, hz1, hz2⟩ := info_parts infoHZ
    have HI := Lib.hid hi0
    have HZ0 := Lib.hid hz0
    have HZ1 := Lib.hid hz1
    have HZ2 := Lib.hid hz2
    have HF := Lib.hid (fedE (h.below ((Below.refl w.heap.size w).alloc (Nat.le_refl _) (.cells #[] 38))))
    clear h hcells hi0 hz0 hz1 hz2 hA
    have HO := Lib.hid (World.ownsRow_lit w (base := w.heap.size) (e := 38) (size := 1) #[] 0 (Nat.le_refl _) (Nat.zero_le _) rfl)
    have HL := Lib.hid (show (l.map enc16).length = l.length * 1 by simp)
    have H1 := Lib.hid (oneE l)
    go_enter Try.func32, Try.ntmps32
    go_wp2_with (at_builtin; refine wpList_append_own _ rfl _ _ 24 rfl w.heap.size 38 i0 _ 1 2 Try.underlying24 HI.out HZ0.out HZ1.out HZ2.out rfl (by decide) _ 0 [] rfl HO.out a l.length cap _ rfl HL.out HF.out H1.out ?c3 ?c4 ?c5 ?_)
    case c3 => unfold maxLen; omega
    case c4 => omega
    intro v' w1 hown hgrow _
    have HO2 := Lib.hid hown
    have HB := Lib.hid (((Below.refl w.heap.size w).alloc (Nat.le_refl _) (.cells #[] 38)).grown hgrow (by rw [World.size_alloc]; omega) (fun k hk => by cases hk; exact Nat.le_refl _))
    clear hown hgrow
    go_wp2_with fail
    go_ret
    exact ⟨_, rfl, by have := HO2.out; simpa using this, HB.out⟩
end Go.Proofs.Ytondgdacjbfihaa
