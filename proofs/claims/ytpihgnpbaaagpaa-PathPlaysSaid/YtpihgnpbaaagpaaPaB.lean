/-
  Package path: copies of paths: contracts.
-/
import Derived.Test.YtpihgnpbaaagpaaPaA
namespace Go.Proofs.Ytpihgnpbaaagpaa
open Go.RowKit
set_option linter.unusedVariables false
set_option linter.unusedSimpArgs false
set_option maxRecDepth 100000

theorem infoPaZ : (Try.prog.info? 47).map (fun i => (i.zero, i.size, i.bytes)) = some (some (.agg (cellsPa zeroPa)), 14, 120) := by kernel_rfl
/-- What append is fed with: paths that lie in a row. -/
theorem fedP {w : World} {a : Addr} {cap : Nat} {l : List Pa} (h : RowP w (.slice (some a) l.length cap) l) : ∀ j u, (flatP l)[j]? = some u → w.cell? (a.add j) = some u := by
  obtain ⟨A', cap', hv, _, _, hc⟩ := h
  cases hv
  intro j u hu
  have hj : j < l.length * 14 := by have := (List.getElem?_eq_some_iff.1 hu).1; rw [flatP_length] at this; exact this
  obtain ⟨b, off, e, hlt, hcell⟩ := hc (by omega)
  cases e
  rw [addr_plain]
  have hj2 : j / 14 < l.length := by omega
  have hjm : j % 14 < 14 := Nat.mod_lt _ (by omega)
  have e1 : j = j / 14 * 14 + j % 14 := by omega
  have hu' : (cellsPa l[j / 14]).toList[j % 14]? = some u := by rw [← flatP_at l (j / 14) (j % 14) hj2 hjm, ← e1]; exact hu
  have := hcell (j / 14) hj2 (j % 14) u hu'
  rw [Nat.add_assoc, ← e1] at this
  exact this
set_option maxHeartbeats 1000000 in
theorem clone_any (l : List Pa) (hl : l.length ≤ 100000) (v : Value) (w : World) (h : RowP w v l) :
    Calls Try.prog 64 #[v] w fun e w' => ∃ v', e = .returned v' ∧ w'.ownsRow w.heap.size 47 14 v' l.length (flatP l) ∧ Below w.heap.size w w' := by
  obtain ⟨A, cap, rfl, hcap, hmax, hcells⟩ := id h
  have q22 : ∀ (w : World) (a : Option Addr) (n c n' c' : Nat), (binOp .eql 25 (.slice a n c) (.slice none n' c')).run Try.prog w = .ok (.bool a.isNone) w := fun w a n c n' c' => Lib.run_eql_slice_nil w _ _ a n c n' c' Try.underlying25
  by_cases hA : A = none
  · subst hA
    have h0 : l.length = 0 := by
      by_cases h1 : 0 < l.length
      · obtain ⟨b, off, e, _⟩ := hcells h1
        cases e
      · omega
    obtain rfl : l = [] := List.eq_nil_of_length_eq_zero h0
    clear h hcells
    go_enter Try.func64, Try.ntmps64
    go_wp2_with fail
    go_ret
    exact ⟨_, rfl, ⟨rfl, .inl ⟨rfl, rfl⟩⟩, Below.refl _ _⟩
  · obtain ⟨a, rfl⟩ := Option.ne_none_iff_exists'.1 hA
    obtain ⟨i0, hi0, hz0, hz1, hz2⟩ := info_parts infoPaZ
    have HI := Lib.hid hi0
    have HZ0 := Lib.hid hz0
    have HZ1 := Lib.hid hz1
    have HZ2 := Lib.hid hz2
    have HF := Lib.hid (fedP (h.below ((Below.refl w.heap.size w).alloc (Nat.le_refl _) (.cells #[] 47))))
    clear h hcells hi0 hz0 hz1 hz2 hA
    have HO := Lib.hid (World.ownsRow_lit w (base := w.heap.size) (e := 47) (size := 14) #[] 0 (Nat.le_refl _) (Nat.zero_le _) rfl)
    have HL := Lib.hid (flatP_length l)
    have H1 := Lib.hid (flatP_one l)
    go_enter Try.func64, Try.ntmps64
    go_wp2_with (at_builtin; refine wpList_append_own _ rfl _ _ 25 rfl w.heap.size 47 i0 _ 14 120 Try.underlying25 HI.out HZ0.out HZ1.out HZ2.out rfl (by decide) _ 0 [] rfl HO.out a l.length cap _ rfl HL.out HF.out H1.out ?c3 ?c4 ?c5 ?_)
    case c3 => unfold maxLen; omega
    case c4 => omega
    intro v' w1 hown hgrow _
    have HO2 := Lib.hid hown
    have HB := Lib.hid (((Below.refl w.heap.size w).alloc (Nat.le_refl _) (.cells #[] 47)).grown hgrow (by rw [World.size_alloc]; omega) (fun k hk => by cases hk; exact Nat.le_refl _))
    clear hown hgrow
    go_wp2_with fail
    go_ret
    exact ⟨_, rfl, by have := HO2.out; simpa using this, HB.out⟩
theorem own_form2 {w : World} {base size n : Nat} {e : TypeId} {v : Value} {xs : List Value} (h : w.ownsRow base e size v n xs) : ∃ A cap, v = .slice A n cap ∧ n ≤ cap ∧ cap ≤ maxLen := by
  obtain ⟨A, cap, h1, h2, h3, _⟩ := own_slice h
  exact ⟨A, cap, h1, h2, h3⟩
theorem ownP_keep {w w' : World} {B size n : Nat} {T : TypeId} {v : Value} {xs : List Value} {k : Nat} (h : w.ownsRow B T size v n xs) (hg : w.grownBy w' (some k)) (hk : k < B) : w'.ownsRow B T size v n xs := by
  refine ⟨h.1, ?_⟩
  rcases h.2 with h0 | ⟨g, cap, cur, rfl, hB, hh, r⟩
  · exact .inl h0
  · exact .inr ⟨g, cap, cur, rfl, hB, (hg.block g (Array.getElem?_eq_some_iff.1 hh).1 (by simp; omega)).trans hh, r⟩
set_option maxHeartbeats 1000000 in
theorem copied_any (l : List Pa) (hl : l.length ≤ 100000) (v : Value) (pr al : Int) (w : World) (h : RowP w v l) :
    Calls Try.prog 36 #[.agg #[v, .int .i64 pr, .int .i64 al]] w fun e w' => ∃ v', e = .returned (.agg #[v', .int .i64 pr, .int .i64 al]) ∧ w'.ownsRow w.heap.size 47 14 v' l.length (flatP l) ∧ Below w.heap.size w w' := by
  obtain ⟨W, hW, HA, HZ, HB, hs⟩ := two_open w 27 27 #[v, .int .i64 pr, .int .i64 al] #[.slice none 0 0, .int .i64 0, .int .i64 0]
  have HC := Lib.hid (fun W h => clone_any l hl v W h)
  have HR := Lib.hid (show RowP W v l from h.below HB.out)
  obtain ⟨A, cap, rfl, _, _, _⟩ := h
  have c0 := HA.out.cell 0 _ rfl
  go_enter Try.func36, Try.ntmps36
  go_wp2_with fail
  refine (HC.out _ HR.out).mono ?_
  rintro e w1 ⟨v1, rfl, hown, hb⟩
  obtain ⟨A1, cap1, rfl, _, _⟩ := own_form2 hown
  clear c0 hW HR
  replace HA := Lib.hid (HA.out.later hb)
  replace HZ := Lib.hid (HZ.out.later hb)
  replace HB := Lib.hid (HB.out.trans (hb.mono (by omega)))
  have HO := Lib.hid (own_base hown (show w.heap.size + 2 ≤ W.heap.size by omega))
  have hs1 : w.heap.size + 2 ≤ w1.heap.size := by have := hb.size; omega
  clear hb hown
  go_wp2_with (first
    | ((with_reducible refine gate9 ?_); refine stF (.slice A1 l.length cap1) rfl rfl rfl rfl HA.out (by show 0 < 3; decide) infoSl rfl ?_; intro w2 ht hg; replace HZ := Lib.hid (HZ.out.kept hg (by omega)); replace HB := Lib.hid (below_of_grown1 HB.out hg HB.out.size (by omega)); replace HO := Lib.hid (ownP_keep HO.out hg (by omega)); replace HA := Lib.hid ht; clear ht hg)
    | ((with_reducible refine gate9 ?_); refine ldB rfl rfl rfl HA.out Try.underlying27 rfl infoPs ?_)
    | ((with_reducible refine gate9 ?_); refine stB #[.slice A1 l.length cap1, .int .i64 pr, .int .i64 al] rfl rfl rfl rfl HZ.out infoPs rfl (cells3_one _ _ _ _ _) ?_; intro w2 ht hg; replace HB := Lib.hid (below_of_grown1 HB.out hg HB.out.size (by omega)); replace HO := Lib.hid (ownP_keep HO.out hg (by omega)); replace HZ := Lib.hid ht; clear ht hg))
  exact bodyPost_ret (retPs rfl rfl rfl HZ.out) rfl ⟨_, rfl, own_base HO.out (by omega), HB.out⟩
end Go.Proofs.Ytpihgnpbaaagpaa
