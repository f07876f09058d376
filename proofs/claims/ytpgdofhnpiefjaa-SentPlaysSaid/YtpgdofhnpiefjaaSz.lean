/-
  All that was sent is told at once: plain, and Ack's contract for it.
-/
import Derived.Test.YtpgdofhnpiefjaaSn
import Derived.Test.YtpgdofhnpiefjaaSo
import Derived.Test.YtpgdofhnpiefjaaSu
import Derived.Test.YtpgdofhnpiefjaaSv
namespace Go.Proofs.Ytpgdofhnpiefjaa
open Go.RowKit
set_option linter.unusedVariables false
set_option linter.unusedSimpArgs false
set_option maxRecDepth 100000

/-- What stands behind j pieces that were put in. -/
structure WhI (c : UInt32) (now : Int) (j : Nat) (all : Int) (l : List Pc) : Prop where
  ok : OkL c l
  len : l.length = j
  st : ∀ x ∈ l, x.st = 1 ∧ x.ti = 1 ∧ x.tm = now
  na : sumZ notA l = all
  ua : underL (-1) l = all
theorem WhI.start (c : UInt32) (now : Int) : WhI c now 0 0 [] := ⟨okL_nil c, rfl, by simp, rfl, rfl⟩
theorem WhI.put {c : UInt32} {now all : Int} {j : Nat} {l : List Pc} (h : WhI c now j all l) (hj : j < 64) {n : Int} (h1 : 1 ≤ n) (h2 : n ≤ 1500) : WhI c now (j + 1) (all + n) (l ++ [newPc (nextL c l) n 0 now]) := by
  have hl := h.len
  refine ⟨okL_put h.ok (by omega) h1 h2, by rw [List.length_append, List.length_singleton, hl], fun x hx => ?_, ?_, ?_⟩
  · rcases List.mem_append.1 hx with hx | hx
    · exact h.st x hx
    · rw [List.mem_singleton.1 hx]; exact ⟨rfl, rfl, rfl⟩
  · rw [sumZ_append, h.na]
    show all + (n + 0) = _
    omega
  · show sumZ (outB (-1)) _ = _
    have h9 : sumZ (outB (-1)) l = all := h.ua
    rw [sumZ_append, h9]
    show all + (n + 0) = _
    omega
theorem WhI.fit {c : UInt32} {now all : Int} {j : Nat} {l : List Pc} (h : WhI c now j all l) : 0 ≤ all ∧ all ≤ 1500 * (j : Int) := by
  have h1 := sumZ_lo notA l h.ok.ok
  rw [h.na, h.len] at h1
  exact h1
theorem goneTo_tk (now : Int) {l : List Pc} (k : Nat) (hs : ∀ x ∈ l, x.st = 1 ∧ x.ti = 1 ∧ x.tm = now) : ∀ j, j ≤ l.length → (goneTo now l k j).tk.length = j
  | 0, _ => rfl
  | j + 1, h => by
    have ih := goneTo_tk now k hs j (by omega)
    obtain ⟨e1, e2, e3⟩ := hs _ (List.getElem_mem (show j < l.length by omega))
    rw [goneTo_succ now l k j (by omega)]
    unfold stepD
    rw [if_neg (by rw [e1]; decide)]
    unfold tellR
    show (if _ then _ else _ : List Int).length = _
    rw [if_pos ⟨e2, by rw [e3]; exact Int.le_refl _⟩, List.length_append, List.length_singleton]
    show (goneTo now l k j).tk.length + 1 = _
    omega
theorem dist_len (c : UInt32) {n : Nat} (h : n ≤ 1000) : dist c (c + UInt32.ofNat n) = n := by
  unfold dist
  simp only [UInt32.toNat_sub, UInt32.toNat_add, UInt32.toNat_ofNat']
  have := c.toNat_lt
  omega
theorem dist_self (c : UInt32) : dist c c = 0 := by unfold dist; rw [UInt32.sub_self]; rfl
theorem ackM_all (now : Int) (l : List Pc) : ackM now l [] l.length = ⟨[], goneTo now l l.length l.length, 0⟩ := by
  unfold ackM mkTo
  rw [List.drop_length, Nat.sub_self]
  rfl
theorem ack_whole {c : UInt32} {now all : Int} {n : Nat} {l : List Pc} (h : WhI c now n all l) (v : Value) (w : World) (hv : RowP w v l) :
    Calls Try.prog 9 #[.agg #[.int .u32 (c.toNat : Int), v], .int .u32 ((c + UInt32.ofNat n).toNat : Int), .slice none 0 0, .int .i64 now] w fun e w' => ∃ A k A1 k1 A2 k2 A3 k3 f m, e = .returned (.tuple #[.agg #[.int .u32 ((c + UInt32.ofNat n).toNat : Int), .slice A 0 k], .agg #[.int .i64 all, .int .i64 all, .bool m, .bool f, .slice A1 n k1, .slice A2 0 k2, .slice A3 n k3], .bool true]) ∧ RowP w' (.slice A 0 k) [] ∧ Below w.heap.size w w' := by
  have hl := h.len
  have hl64 := h.ok.len
  have hd : dist c (c + UInt32.ofNat n) = n := dist_len c (by omega)
  have hmay : mayB c l (c + UInt32.ofNat n) [] = true := by unfold mayB; rw [hd, decide_eq_true (by omega)]; rfl
  refine (ack_yes c (c + UInt32.ofNat n) l [] now hl64 (by simp) (fun x hx => by cases hx) h.ok.ok v (.slice none 0 0) w hv (RowGp.nil _) hmay).mono fun e w' h9 => ?_
  obtain ⟨A, k, A1, k1, A2, k2, A3, k3, he, hr, -, -, -, hb⟩ := h9
  rw [hd] at he hr
  subst hl
  have hM := ackM_all now l
  have hby : (ackM now l [] l.length).r.by' = all := by rw [hM]; show (goneTo now l l.length l.length).by' = _; rw [goneTo_by now l.length l.length (Nat.le_refl _), List.take_length, h.na]
  have hou : (ackM now l [] l.length).r.out = all := by rw [hM]; show (goneTo now l l.length l.length).out = _; rw [(goneTo_I now h.ok.ok l.length l.length (Nat.le_refl _)).out, h.ua]
  have htk : (ackM now l [] l.length).r.tk.length = l.length := by rw [hM]; exact goneTo_tk now l.length h.st l.length (Nat.le_refl _)
  have hfa : (ackF now l [] l.length).length = 0 := by unfold ackF; rw [hM]; rfl
  have hL2 : ackL2 now l [] l.length = [] := by unfold ackL2; rw [hM]; rfl
  rw [hby, hou, htk, hfa, Nat.sub_self] at he
  rw [hL2, Nat.sub_self] at hr
  exact ⟨A, k, A1, k1, A2, k2, A3, k3, _, _, he, hr, hb⟩
theorem ack_none (c : UInt32) (now : Int) (v : Value) (w : World) (hv : RowP w v []) :
    Calls Try.prog 9 #[.agg #[.int .u32 (c.toNat : Int), v], .int .u32 (c.toNat : Int), .slice none 0 0, .int .i64 now] w fun e w' => ∃ A k A1 k1 A2 k2 A3 k3, e = .returned (.tuple #[.agg #[.int .u32 (c.toNat : Int), .slice A 0 k], .agg #[.int .i64 0, .int .i64 0, .bool false, .bool false, .slice A1 0 k1, .slice A2 0 k2, .slice A3 0 k3], .bool true]) ∧ Below w.heap.size w w' := by
  have hd := dist_self c
  have hmay : mayB c [] c [] = true := by unfold mayB; rw [hd]; rfl
  refine (ack_yes c c [] [] now (by simp) (by simp) (fun x hx => by cases hx) (fun x hx => by cases hx) v (.slice none 0 0) w hv (RowGp.nil _) hmay).mono fun e w' h9 => ?_
  obtain ⟨A, k, A1, k1, A2, k2, A3, k3, he, hr, -, -, -, hb⟩ := h9
  rw [hd] at he
  exact ⟨A, k, A1, k1, A2, k2, A3, k3, he, hb⟩
theorem next_less (c : UInt32) (n : Nat) : (((c + UInt32.ofNat n + 1).toNat : Int) - 1) % 4294967296 = ((c + UInt32.ofNat n).toNat : Int) := by
  have h1 : (1 : UInt32).toNat = 1 := rfl
  have := (c + UInt32.ofNat n).toNat_lt
  simp only [UInt32.toNat_add, h1]
  omega
theorem first_next (first : UInt32) {l : List Pc} {j : Nat} (h : l.length = j) (hj : j < 1000) : ((first.toNat : Int) + (j : Int)) % 4294967296 = ((nextL (first - 1) l).toNat : Int) := by
  unfold nextL
  rw [h]
  have h1 : (1 : UInt32).toNat = 1 := rfl
  have := first.toNat_lt
  simp only [UInt32.toNat_add, UInt32.toNat_sub, UInt32.toNat_ofNat', h1]
  omega
end Go.Proofs.Ytpgdofhnpiefjaa
