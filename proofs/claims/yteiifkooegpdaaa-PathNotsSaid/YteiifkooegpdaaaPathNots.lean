/-
  Another path than one that does not do is chosen, if there is one that is active; else that one: any paths, any path.
-/
import Derived.Test.YteiifkooegpdaaaLift
import Derived.Test.YteiifkooegpdaaaArgs
namespace Go.Proofs.Yteiifkooegpdaaa.pathNots
open Go.ChangeShapes Go.WideShapes Go.ChangeAt Go.RowKit
set_option linter.unusedVariables false

set_option linter.unusedSimpArgs false
def good (p : Ps) (n : Int) (k : Nat) : Bool := decide ((k : Int) ≠ n) && activeB p (k : Int)
def cnt (p : Ps) (n : Int) : Nat → Nat
  | 0 => 0
  | k + 1 => cnt p n k + (if good p n k then 1 else 0)
theorem cnt_le (p : Ps) (n : Int) (k : Nat) : cnt p n k ≤ k := by
  induction k with
  | zero => exact Nat.le_refl _
  | succ k ih => unfold cnt; split <;> omega
theorem cnt_none {p : Ps} {n : Int} {k : Nat} (h : cnt p n k = 0) : NoneTo p n k := by
  induction k with
  | zero => exact noneTo_0 _ _
  | succ k ih =>
    unfold cnt at h
    refine noneTo_succ (ih (by omega)) ?_
    cases hg : good p n k with
    | true => rw [hg] at h; simp at h
    | false => exact hg
theorem cnt_some {p : Ps} {n : Int} {k : Nat} (h : 0 < cnt p n k) : ¬ NoneTo p n k := by
  intro hn
  have : cnt p n k = 0 := by
    clear h
    induction k with
    | zero => rfl
    | succ k ih =>
      unfold cnt
      have h1 : good p n k = false := hn k (by omega)
      rw [ih (fun j hj => hn j (by omega)), h1]
      rfl
  omega
theorem act_at {l : List Pa} {pr al : Int} {i : Int} (h : activeB ⟨l, pr, al⟩ i = true) : ∃ k : Nat, ∃ h : k < l.length, i = (k : Int) ∧ l[k].st = 2 := by
  simp only [activeB, Bool.and_eq_true, decide_eq_true_eq] at h
  obtain ⟨hlt, hi⟩ := thereB_lt h.1
  have h2 := h.2
  unfold atL at h2
  rw [List.getD_eq_getElem?_getD, List.getElem?_eq_getElem hlt] at h2
  exact ⟨i.toNat, hlt, hi, h2⟩
theorem act_is {l : List Pa} (pr al : Int) {k : Nat} (h : k < l.length) : activeB ⟨l, pr, al⟩ (k : Int) = decide (l[k].st = 2) := by
  have h1 : thereB l.length (k : Int) = true := thereB_nat h
  have h2 : atL l (k : Int) = l[k] := by unfold atL; rw [Int.toNat_natCast, List.getD_eq_getElem?_getD, List.getElem?_eq_getElem h]; rfl
  simp [activeB, h1, h2]
theorem not1_none {l : List Pa} {pr al n : Int} (h : NoneTo ⟨l, pr, al⟩ n l.length) : Not1 ⟨l, pr, al⟩ n := by
  unfold Not1
  cases hb : (decide ((⟨l, pr, al⟩ : Ps).pr ≠ n) && activeB ⟨l, pr, al⟩ (⟨l, pr, al⟩ : Ps).pr) with
  | false => rfl
  | true =>
    simp only [Bool.and_eq_true, decide_eq_true_eq] at hb
    obtain ⟨k, hk, hi, hst⟩ := act_at hb.2
    have h1 := h k hk
    have e : pr = (k : Int) := hi
    rw [← e] at h1
    have h3 : (decide (pr ≠ n) && activeB ⟨l, pr, al⟩ pr) = true := by rw [Bool.and_eq_true]; exact ⟨decide_eq_true hb.1, hb.2⟩
    rw [h1] at h3
    cases h3
theorem choose_good {l : List Pa} {pr al n : Int} (h : ¬ NoneTo ⟨l, pr, al⟩ n l.length) : ∃ k : Nat, ∃ hk : k < l.length, chooseP ⟨l, pr, al⟩ n = (k : Int) ∧ (k : Int) ≠ n ∧ l[k].st = 2 := by
  by_cases hp : pr ≠ n ∧ activeB ⟨l, pr, al⟩ pr = true
  · obtain ⟨k, hk, hi, hst⟩ := act_at hp.2
    exact ⟨k, hk, by rw [choose_primary (p := ⟨l, pr, al⟩) hp.1 hp.2]; exact hi, by rw [← hi]; exact hp.1, hst⟩
  · have hn1 : Not1 ⟨l, pr, al⟩ n := by
      unfold Not1
      cases hb : (decide ((⟨l, pr, al⟩ : Ps).pr ≠ n) && activeB ⟨l, pr, al⟩ (⟨l, pr, al⟩ : Ps).pr) with
      | false => rfl
      | true =>
        simp only [Bool.and_eq_true, decide_eq_true_eq] at hb
        exact absurd ⟨hb.1, hb.2⟩ hp
    cases hf : firstOf ⟨l, pr, al⟩ n with
    | none =>
      exfalso
      apply h
      unfold firstOf at hf
      rw [List.find?_range_eq_none] at hf
      intro j hj
      have := hf j hj
      rw [Bool.not_eq_true'] at this
      exact this
    | some k =>
      have hf' := hf
      unfold firstOf at hf
      rw [List.find?_range_eq_some] at hf
      obtain ⟨h1, h2, h3⟩ := hf
      simp only [Bool.and_eq_true, decide_eq_true_eq] at h1
      obtain ⟨k', hk', hi, hst⟩ := act_at h1.2
      have ek : k = k' := by omega
      subst ek
      refine ⟨k, hk', ?_, h1.1, hst⟩
      unfold chooseP
      rw [if_neg (by rw [hn1]; simp), hf']
set_option maxHeartbeats 4000000 in
set_option maxRecDepth 100000 in
theorem walk (pr al : Int) (V : Value) (l : List Pa) (n : Int) (w : World) (hv : RowP w V l) : Calls Try.prog 7 #[.agg #[V, .int .i64 pr, .int .i64 al], .int .i64 n] w fun e w' => e = .returned (.bool true) ∧ Below w.heap.size w w' := by
  have HS := Lib.hid (fun W => shown_any W)
  have HR := Lib.hid (fun (W : World) (h : Below w.heap.size w W) => hv.below h)
  obtain ⟨A, cap, rfl, hcap, hmax, hcells⟩ := hv
  have hml : (l.length : Int) ≤ 9223372036854775807 := by unfold maxLen at hmax; omega
  have HA := Lib.hid (BS.first w 27 #[.slice A l.length cap, .int .i64 pr, .int .i64 al])
  have HC := Lib.hid hcells
  clear hcells
  by_cases hl : l.length ≤ 20
  · have hl' : ¬ (20 : Int) < (l.length : Int) := by omega
    have HCH := Lib.hid (fun (W : World) (h : Below w.heap.size w W) => choose_any l (by omega) _ pr al n W (HR.out W h))
    have HCL := Lib.hid (fun k => cnt_le ⟨l, pr, al⟩ n k)
    have HNN := Lib.hid (fun (h : cnt ⟨l, pr, al⟩ n l.length = 0) => cnt_none h)
    have HSM := Lib.hid (fun (h : 0 < cnt ⟨l, pr, al⟩ n l.length) => choose_good (cnt_some h))
    have HRS := Lib.hid (fun (h : cnt ⟨l, pr, al⟩ n l.length = 0) => choose_rest (not1_none (cnt_none h)) (cnt_none h))
    obtain ⟨c, hc⟩ : ∃ c, chooseP ⟨l, pr, al⟩ n = c := ⟨_, rfl⟩
    rw [hc] at HCH HSM HRS
    clear hc
    go_enter Try.func7, Try.ntmps7
    go_wp2_with (first
      | (go_at_call 8; (with_reducible refine (HS.out _).mono ?_); rintro e w1 ⟨rfl, hb1⟩; replace HA := Lib.hid (HA.out.later hb1); clear hb1; have c0 := HA.out.own.cell 0 (.slice A l.length cap) rfl)
      | (go_at_call 26; (with_reducible refine (HCH.out _ HA.out.below).mono ?_); rintro e w1 ⟨rfl, hb1⟩; replace HA := Lib.hid (HA.out.later hb1); clear hb1 c0)
      | ((with_reducible refine gate9 ?_); refine ldB rfl rfl rfl HA.out.own Try.underlying27 rfl infoPs ?_))
    go_loopw [7, 8] (fun q i wr => ∃ k : Nat, k ≤ l.length ∧ i = .int .i64 k ∧ q = .int .i64 (cnt ⟨l, pr, al⟩ n k : Nat) ∧ Hid (BS w w.heap.size 27 #[.slice A l.length cap, .int .i64 pr, .int .i64 al] wr))
      (fun _ i _ => l.length - (intOf i).toNat)
    case atStart => exact ⟨0, Nat.zero_le _, rfl, rfl, HA⟩
    case round =>
      clear HA
      obtain ⟨k, hk, rfl, rfl, HA⟩ := hrel
      have hcl := HCL.out k
      have c0 := HA.out.own.cell 0 (.slice A l.length cap) rfl
      have c1 := HA.out.own.cell 1 (.int .i64 pr) rfl
      by_cases hlt : k < l.length
      · obtain ⟨b, off, rfl, hb, hcc⟩ := HC.out (by omega)
        have hd := (HA.out.below.cell (p := ⟨b, off + k * 14 + 1, none⟩) hb).trans ((hcc k hlt) 1 _ rfl)
        have q4 : (0 : Int) ≤ (k : Int) := by omega
        have q5 : (k : Int) < (l.length : Int) := by omega
        have HG := Lib.hid (show good ⟨l, pr, al⟩ n k = (decide ((k : Int) ≠ n) && decide (l[k].st = 2)) by unfold good; rw [act_is pr al hlt])
        have HK1 := Lib.hid (show cnt ⟨l, pr, al⟩ n (k + 1) = cnt ⟨l, pr, al⟩ n k + (if good ⟨l, pr, al⟩ n k then 1 else 0) from rfl)
        rw [HG.out] at HK1
        generalize l[k].st = st at *
        generalize cnt ⟨l, pr, al⟩ n k = q at *
        clear hcc HG
        by_cases h2 : st = 2
        · subst h2
          by_cases hn : (k : Int) = n
          · have hq : ((k : Int) != n) = false := by simp [hn]
            have hq2 : ((k : Int) == n) = true := by simp [hn]
            have HK2 : Hid (cnt ⟨l, pr, al⟩ n (k + 1) = q) := Lib.hid (by rw [HK1.out]; simp [hn])
            clear hn
            go_wp2_with fail
            go_roundw
            case rel => exact ⟨k + 1, by omega, by go_num, by rw [HK2.out], HA⟩
            case measure => simp [intOf]; omega
          · have hq : ((k : Int) != n) = true := by simp [hn]
            have hq2 : ((k : Int) == n) = false := by simp [hn]
            have HK2 : Hid (cnt ⟨l, pr, al⟩ n (k + 1) = q + 1) := Lib.hid (by rw [HK1.out]; simp [hn])
            clear hn
            go_wp2_with fail
            go_roundw
            case rel => exact ⟨k + 1, by omega, by go_num, by rw [HK2.out]; go_num, HA⟩
            case measure => simp [intOf]; omega
        · have HK2 : Hid (cnt ⟨l, pr, al⟩ n (k + 1) = q) := Lib.hid (by rw [HK1.out]; simp [h2])
          go_wp2_with fail
          go_roundw
          case rel => exact ⟨k + 1, by omega, by go_num, by rw [HK2.out], HA⟩
          case measure => simp [intOf]; omega
      · obtain rfl : k = l.length := by omega
        by_cases hz : cnt ⟨l, pr, al⟩ n l.length = 0
        · have HRC := Lib.hid (HRS.out hz)
          rw [hz]
          clear hz HNN HSM HRS hcl
          by_cases ht : 0 ≤ n ∧ n < l.length
          · obtain ⟨hn0, hn1⟩ := ht
            have hnt : n = (n.toNat : Int) := by omega
            have hlt : n.toNat < l.length := by omega
            obtain ⟨b, off, rfl, hb, hcc⟩ := HC.out (by omega)
            generalize n.toNat = k at *
            subst hnt
            have hd := (HA.out.below.cell (p := ⟨b, off + k * 14 + 1, none⟩) hb).trans ((hcc k hlt) 1 _ rfl)
            rw [act_is pr al hlt] at HRC
            generalize l[k].st = st at *
            clear hcc
            by_cases h2 : st = 2
            · subst h2
              have hcn : c = (k : Int) := by have := HRC.out; simpa using this
              subst hcn
              go_wp2_with fail
              go_ret
              exact ⟨rfl, HA.out.below⟩
            · have hcp : c = if thereB l.length pr then pr else -1 := by have := HRC.out; simpa [h2] using this
              cases htp : thereB l.length pr with
              | true =>
                rw [htp] at hcp
                have hcp' : c = pr := hcp
                clear hcp
                subst hcp'
                go_wp2_with fail
                go_ret
                exact ⟨rfl, HA.out.below⟩
              | false =>
                rw [htp] at hcp
                have hcp' : c = -1 := hcp
                clear hcp
                subst hcp'
                have hnp := thereB_not htp
                by_cases hp0 : pr < 0
                · by_cases hp1 : pr = -1
                  · subst hp1
                    go_wp2_with fail
                    go_ret
                    exact ⟨rfl, HA.out.below⟩
                  · have e1 : ((-1 : Int) == pr) = false := by simp; omega
                    go_wp2_with fail
                    go_ret
                    exact ⟨rfl, HA.out.below⟩
                · have hp2 : (l.length : Int) ≤ pr := by omega
                  have e1 : ((-1 : Int) == pr) = false := by simp; omega
                  go_wp2_with fail
                  go_ret
                  exact ⟨rfl, HA.out.below⟩
          · have hact : activeB ⟨l, pr, al⟩ n = false := by
              cases ha : activeB ⟨l, pr, al⟩ n with
              | false => rfl
              | true => obtain ⟨k, hk, hi, _⟩ := act_at ha; exact absurd ⟨by omega, by omega⟩ ht
            rw [hact] at HRC
            have hcp : c = if thereB l.length pr then pr else -1 := by have := HRC.out; simpa using this
            have tail : ∀ (hx : (¬ 0 ≤ n) ∨ (0 ≤ n ∧ ¬ n < (l.length : Int))), True := fun _ => trivial
            have hx : n < 0 ∨ (0 ≤ n ∧ (l.length : Int) ≤ n) := by omega
            clear hact tail ht HRC
            cases htp : thereB l.length pr with
            | true =>
              rw [htp] at hcp
              have hcp' : c = pr := hcp
              clear hcp
              subst hcp'
              rcases hx with hx | ⟨hx, hx2⟩
              all_goals
                go_wp2_with fail
                go_ret
                exact ⟨rfl, HA.out.below⟩
            | false =>
              rw [htp] at hcp
              have hcp' : c = -1 := hcp
              clear hcp
              subst hcp'
              have hnp := thereB_not htp
              by_cases hp0 : pr < 0
              · by_cases hp1 : pr = -1
                · subst hp1
                  rcases hx with hx | ⟨hx, hx2⟩
                  all_goals
                    go_wp2_with fail
                    go_ret
                    exact ⟨rfl, HA.out.below⟩
                · have e1 : ((-1 : Int) == pr) = false := by simp; omega
                  rcases hx with hx | ⟨hx, hx2⟩
                  all_goals
                    go_wp2_with fail
                    go_ret
                    exact ⟨rfl, HA.out.below⟩
              · have hp2 : (l.length : Int) ≤ pr := by omega
                have e1 : ((-1 : Int) == pr) = false := by simp; omega
                rcases hx with hx | ⟨hx, hx2⟩
                all_goals
                  go_wp2_with fail
                  go_ret
                  exact ⟨rfl, HA.out.below⟩
        · obtain ⟨k, hlt, hck, hkn, hst⟩ := HSM.out (by omega)
          subst hck
          obtain ⟨b, off, rfl, hb, hcc⟩ := HC.out (by omega)
          have hd0 := (hcc k hlt) 1 _ rfl
          rw [hst] at hd0
          have hd := (HA.out.below.cell (p := ⟨b, off + k * 14 + 1, none⟩) hb).trans hd0
          have q4 : (0 : Int) ≤ (k : Int) := by omega
          have q5 : (k : Int) < (l.length : Int) := by omega
          have hq : ((k : Int) != n) = true := by simp [hkn]
          have hq2 : ((k : Int) == n) = false := by simp [hkn]
          have hz' : (0 : Int) < (cnt ⟨l, pr, al⟩ n l.length : Nat) := by omega
          generalize cnt ⟨l, pr, al⟩ n l.length = q at *
          clear hcc hd0 HSM HRS HNN hz
          go_wp2_with fail
          go_ret
          exact ⟨rfl, HA.out.below⟩
  · have hl' : (20 : Int) < (l.length : Int) := by omega
    go_enter Try.func7, Try.ntmps7
    go_wp2_with (go_at_call 8; (with_reducible refine (HS.out _).mono ?_); rintro e w1 ⟨rfl, hb1⟩; replace HA := Lib.hid (HA.out.later hb1); clear hb1; have c0 := HA.out.own.cell 0 (.slice A l.length cap) rfl)
    go_ret
    exact ⟨rfl, HA.out.below⟩

set_option maxRecDepth 100000 in
theorem lifted (os : Os) (started : os.Started) (H : Type) (enc : TypeId × Value → H) :
    ReturnsInHanded {} Try.checked os 7 .any (Rows.pathNotsSpec.pre6 enc Try.prog Try.f7 Rows.pathNotsRow.domain false) (Rows.pathNotsSpec.post enc Try.prog Try.f7 false true false false) := by
  refine returnsInHanded_of_change_sized (C := Try.checked) own started (by kernel_rfl) Try.func7
    (ChangeSpec.witness6 (enc := enc) (C := Try.checked) false ⟨#[], #[.agg #[.slice none 0 0, .int .i64 0, .int .i64 0], .int .i64 0], []⟩ 8 (by kernel_rfl) (by kernel_rfl) (by kernel_rfl) (by kernel_rfl)) ?_
  intro W base args ds gs before hval0 hW _ hreach _
  have hval : ∀ (j : Nat) t v, Try.f7.params[j]? = some t → args[j]? = some v → Value.okWide Try.prog W .any base t v := hval0
  obtain ⟨p, q, hA0, _, _, _, _⟩ := id hW
  have hA : DataW.TrodAll enc Try.prog W 0 (fun _ => true) true Try.f7.params.toList args.toList ds p := hA0
  rw [Try.params7] at hA hval
  obtain ⟨v0, vs0, d0, ds0, p0, q0, hargs, rfl, rfl, h0, r0⟩ := trodAll_cons hA
  obtain ⟨v1, vs1, d1, ds1, p1, q1, rfl, rfl, rfl, h1, r1⟩ := trodAll_cons r0
  obtain ⟨rfl, rfl, rfl⟩ := trodAll_nil r1
  obtain rfl : args = #[v0, v1] := by cases args; simp_all
  obtain ⟨f0, t0, g0, u0, l0, rfl, n0⟩ := packet_in (hval 0 27 v0 rfl rfl) h0
  obtain ⟨a1, rfl, rfl, rfl, w1⟩ := open_int Try.underlying3 (hval 1 3 v1 rfl rfl) h1
  refine (walk f0 t0 u0 l0 a1 W n0.row).mono fun e W' ⟨he, hg⟩ => ?_
  subst he
  exact ⟨_, rfl, law_post laidOut Try.underlying4 (by kernel_rfl) (by kernel_rfl) rfl hW (by simp [Rows.pathNotsSpec]) hg⟩

theorem proved : Rows.PathNotsSaid :=
  OpenClaim.holds_of_wide 7 Try.f7 rfl rfl rfl rfl rfl rfl rfl ⟨rfl, rfl, rfl, rfl, rfl⟩ rfl rfl rfl rfl rfl (by kernel_rfl) Try.func7 (by kernel_rfl)
    (of_decide_eq_true (by kernel_rfl)) (by unfold Func.isWrapper; first | (rw [if_pos (by decide +kernel)]; kernel_rfl) | (rw [if_neg (by decide +kernel)]; exact ⟨rfl, rfl⟩))
    (fun os started H enc _ => lifted os started H enc)
#print axioms proved
end Go.Proofs.Yteiifkooegpdaaa.pathNots
