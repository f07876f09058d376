/-
  Package path, and the document's: New, whatever comes: contracts.
-/
import Derived.Test.YteiifkooegpdaaaPaP
namespace Go.Proofs.Yteiifkooegpdaaa
open Go.RowKit
set_option linter.unusedVariables false
set_option linter.unusedSimpArgs false
set_option maxRecDepth 100000

theorem new_e1 (l : List ByteArray) (hl : l.length ≤ 100000) (peer : Int) (v : Value) (w : World) (hv : RowE encS w v l) (HAR : Hid (∀ W, RowE encS W v l → Calls Try.prog 29 #[v] W fun e W' => e = .returned (.bool false) ∧ W' = W)) :
    Calls Try.prog 10 #[v, .int .i64 peer] w fun e w' => ∃ v', e = .returned (.tuple #[.agg #[v', .int .i64 0, .int .i64 0], .int .i64 1]) ∧ RowP w' v' [] ∧ Below w.heap.size w w' := by
  obtain ⟨A, cap, rfl, hcap, hmax, _⟩ := id hv
  have HV := Lib.hid (fun (W : World) (h : Below w.heap.size w W) => hv.below h)
  have HZ := Lib.hid (BS.first w 27 #[.slice none 0 0, .int .i64 0, .int .i64 0])
  have hl' : (l.length : Int) ≤ 100000 := by omega
  clear hv
  go_enter Try.func10, Try.ntmps10
  go_wp2_with (first
    | (go_at_call 29; (with_reducible refine (HAR.out _ (HV.out _ HZ.out.below)).mono ?_); rintro e w1 ⟨rfl, rfl⟩)
    | ((with_reducible refine gate9 ?_); refine stB (ty := 27) #[.slice none 0 0, .int .i64 0, .int .i64 0] rfl rfl rfl rfl HZ.out.own infoPs rfl (cells3_one _ _ _ _ _) ?_; intro w2 ht hg; replace HZ := Lib.hid (HZ.out.set ht hg); clear ht hg))
  exact bodyPost_ret (retPs1 rfl rfl rfl rfl HZ.out.own) rfl ⟨_, rfl, RowP.nil _, HZ.out.below⟩
theorem new_e4 (l : List ByteArray) (hl : l.length ≤ 100000) (peer : Int) (v : Value) (w : World) (hv : RowE encS w v l) (HAR : Hid (∀ W, RowE encS W v l → Calls Try.prog 29 #[v] W fun e W' => e = .returned (.bool true) ∧ W' = W)) (h4 : (4 : Int) < (l.length : Int)) :
    Calls Try.prog 10 #[v, .int .i64 peer] w fun e w' => ∃ v', e = .returned (.tuple #[.agg #[v', .int .i64 0, .int .i64 0], .int .i64 4]) ∧ RowP w' v' [] ∧ Below w.heap.size w w' := by
  obtain ⟨A, cap, rfl, hcap, hmax, _⟩ := id hv
  have HV := Lib.hid (fun (W : World) (h : Below w.heap.size w W) => hv.below h)
  have HZ := Lib.hid (BS.first w 27 #[.slice none 0 0, .int .i64 0, .int .i64 0])
  have hl' : (l.length : Int) ≤ 100000 := by omega
  clear hv
  go_enter Try.func10, Try.ntmps10
  go_wp2_with (first
    | (go_at_call 29; (with_reducible refine (HAR.out _ (HV.out _ HZ.out.below)).mono ?_); rintro e w1 ⟨rfl, rfl⟩)
    | ((with_reducible refine gate9 ?_); refine stB (ty := 27) #[.slice none 0 0, .int .i64 0, .int .i64 0] rfl rfl rfl rfl HZ.out.own infoPs rfl (cells3_one _ _ _ _ _) ?_; intro w2 ht hg; replace HZ := Lib.hid (HZ.out.set ht hg); clear ht hg))
  exact bodyPost_ret (retPs1 rfl rfl rfl rfl HZ.out.own) rfl ⟨_, rfl, RowP.nil _, HZ.out.below⟩
theorem new_e9 (l : List ByteArray) (hl : l.length ≤ 100000) (peer : Int) (v : Value) (w : World) (hv : RowE encS w v l) (HAR : Hid (∀ W, RowE encS W v l → Calls Try.prog 29 #[v] W fun e W' => e = .returned (.bool true) ∧ W' = W)) (h4 : ¬ (4 : Int) < (l.length : Int)) (HTW : Hid (∀ W, RowE encS W v l → Calls Try.prog 30 #[v] W fun e W' => e = .returned (.bool true) ∧ W' = W)) :
    Calls Try.prog 10 #[v, .int .i64 peer] w fun e w' => ∃ v', e = .returned (.tuple #[.agg #[v', .int .i64 0, .int .i64 0], .int .i64 9]) ∧ RowP w' v' [] ∧ Below w.heap.size w w' := by
  obtain ⟨A, cap, rfl, hcap, hmax, _⟩ := id hv
  have HV := Lib.hid (fun (W : World) (h : Below w.heap.size w W) => hv.below h)
  have HZ := Lib.hid (BS.first w 27 #[.slice none 0 0, .int .i64 0, .int .i64 0])
  have hl' : (l.length : Int) ≤ 100000 := by omega
  clear hv
  go_enter Try.func10, Try.ntmps10
  go_wp2_with (first
    | (go_at_call 29; (with_reducible refine (HAR.out _ (HV.out _ HZ.out.below)).mono ?_); rintro e w1 ⟨rfl, rfl⟩)
    | (go_at_call 30; (with_reducible refine (HTW.out _ (HV.out _ HZ.out.below)).mono ?_); rintro e w1 ⟨rfl, rfl⟩)
    | ((with_reducible refine gate9 ?_); refine stB (ty := 27) #[.slice none 0 0, .int .i64 0, .int .i64 0] rfl rfl rfl rfl HZ.out.own infoPs rfl (cells3_one _ _ _ _ _) ?_; intro w2 ht hg; replace HZ := Lib.hid (HZ.out.set ht hg); clear ht hg))
  exact bodyPost_ret (retPs1 rfl rfl rfl rfl HZ.out.own) rfl ⟨_, rfl, RowP.nil _, HZ.out.below⟩
theorem new_all (l : List ByteArray) (hl : l.length ≤ 100000) (hs : ∀ s ∈ l, s.size ≤ maxLen) (peer : Int) (v : Value) (w : World) (hv : RowE encS w v l) :
    Calls Try.prog 10 #[v, .int .i64 peer] w fun e w' => ∃ v', e = .returned (.tuple #[.agg #[v', .int .i64 0, .int .i64 0], .int .i64 (newE l)]) ∧ RowP w' v' (newPs l peer).l ∧ Below w.heap.size w w' := by
  have HAR := Lib.hid (fun W h => are_any l hl hs v W h)
  have HTW := Lib.hid (fun W h => twice_any l hl v W h)
  cases ha : (decide (0 < l.length) && !badB l) with
  | false =>
    rw [ha] at HAR
    have e1 : newE l = 1 := newE_none ha
    have e2 : (newPs l peer).l = [] := by simp [newPs, e1, zeroPs]
    rw [e1, e2]
    exact new_e1 l hl peer v w hv HAR
  | true =>
    rw [ha] at HAR
    by_cases h4 : 4 < l.length
    · have e1 : newE l = 4 := newE_long ha h4
      have e2 : (newPs l peer).l = [] := by simp [newPs, e1, zeroPs]
      rw [e1, e2]
      exact new_e4 l hl peer v w hv HAR (by omega)
    · cases hd : dupB l with
      | true =>
        rw [hd] at HTW
        have e1 : newE l = 9 := newE_dup ha h4 hd
        have e2 : (newPs l peer).l = [] := by simp [newPs, e1, zeroPs]
        rw [e1, e2]
        exact new_e9 l hl peer v w hv HAR (by omega) HTW
      | false =>
        rw [hd] at HTW
        have e1 : newE l = 0 := newE_ok ha h4 hd
        have e2 : (newPs l peer).l = newL l peer := by simp [newPs, e1]
        rw [e1, e2]
        simp only [Bool.and_eq_true, decide_eq_true_eq, Bool.not_eq_true'] at ha
        exact (new_row l (by omega) ha.1 ha.2 peer v w hv HAR HTW).mono fun e w' ⟨v', h1, h2, h3, _⟩ => ⟨v', h1, h2, h3⟩
end Go.Proofs.Yteiifkooegpdaaa
