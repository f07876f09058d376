/-
  The check sum of chapter 2 as plain functions on numbers and lists of bytes, and what is true of them: one halving is linear over xor and tells apart all registers, and so do whole texts. No program is named here.
-/
import Derived.WalkKit
import Derived.Laws.BitsAllLaws
namespace Go.Proofs.Ytfancmomihdkbaa
set_option linter.unusedVariables false

/-- One bit dropped from the register. -/
def half (r : Nat) : Nat := if r % 2 = 1 then r / 2 ^^^ 2197175160 else r / 2
/-- Eight bits dropped. -/
def step (r : Nat) : Nat := half (half (half (half (half (half (half (half r)))))))
/-- The register behind a text. -/
def behind (r : Nat) (l : List UInt8) : Nat := l.foldl (fun r b => step (r ^^^ b.toNat)) r
/-- A sum gone on with. -/
def crc (c : Nat) (l : List UInt8) : Nat := 4294967295 - behind (4294967295 - c) l

theorem xor_lt {a b : Nat} (ha : a < 4294967296) (hb : b < 4294967296) : a ^^^ b < 4294967296 := Nat.xor_lt_two_pow (n := 32) ha hb
theorem xor_lt8 {a b : Nat} (ha : a < 256) (hb : b < 256) : a ^^^ b < 256 := Nat.xor_lt_two_pow (n := 8) ha hb
theorem half_lt {r : Nat} (h : r < 4294967296) : half r < 4294967296 := by
  unfold half; split
  · exact xor_lt (by omega) (by omega)
  · omega
theorem step_lt {r : Nat} (h : r < 4294967296) : step r < 4294967296 := by
  unfold step; exact half_lt (half_lt (half_lt (half_lt (half_lt (half_lt (half_lt (half_lt h)))))))
theorem behind_lt {r : Nat} (h : r < 4294967296) (l : List UInt8) : behind r l < 4294967296 := by
  induction l generalizing r with
  | nil => exact h
  | cons b l ih => exact ih (step_lt (xor_lt h (by have := b.toNat_lt; omega)))
theorem crc_lt (c : Nat) (l : List UInt8) : crc c l < 4294967296 := by unfold crc; omega

theorem xor_div2 (a b : Nat) : (a ^^^ b) / 2 = a / 2 ^^^ b / 2 := by
  have := Nat.shiftRight_xor_distrib (a := a) (b := b) (i := 1)
  simpa [Nat.shiftRight_eq_div_pow] using this
theorem xor_mod2 (a b : Nat) : (a ^^^ b) % 2 = (a % 2 + b % 2) % 2 := by
  have h := Nat.testBit_xor a b 0
  have e : ∀ n : Nat, n % 2 = if n.testBit 0 then 1 else 0 := by
    intro n
    rw [Nat.testBit_zero]
    by_cases hn : n % 2 = 1 <;> simp [hn]; omega
  rw [e (a ^^^ b), e a, e b, h]
  cases a.testBit 0 <;> cases b.testBit 0 <;> rfl
theorem half_xor (a b : Nat) : half (a ^^^ b) = half a ^^^ half b := by
  unfold half
  rw [xor_div2, xor_mod2]
  have self : (2197175160 : Nat) ^^^ 2197175160 = 0 := Nat.xor_self _
  generalize (2197175160 : Nat) = p at self ⊢
  rcases Nat.mod_two_eq_zero_or_one a with ha | ha <;> rcases Nat.mod_two_eq_zero_or_one b with hb | hb <;> simp only [ha, hb]
  · rfl
  · show a / 2 ^^^ b / 2 ^^^ p = a / 2 ^^^ (b / 2 ^^^ p); ac_rfl
  · show a / 2 ^^^ b / 2 ^^^ p = a / 2 ^^^ p ^^^ b / 2; ac_rfl
  · show a / 2 ^^^ b / 2 = a / 2 ^^^ p ^^^ (b / 2 ^^^ p)
    rw [show a / 2 ^^^ p ^^^ (b / 2 ^^^ p) = (a / 2 ^^^ b / 2) ^^^ (p ^^^ p) by ac_rfl, self, Nat.xor_zero]
theorem step_xor (a b : Nat) : step (a ^^^ b) = step a ^^^ step b := by unfold step; simp only [half_xor]
theorem half_even {r : Nat} (h : r % 2 = 0) : half r = r / 2 := by unfold half; rw [if_neg (by omega)]
theorem half_odd {r : Nat} (h : r % 2 = 1) : half r = r / 2 ^^^ 2197175160 := by unfold half; rw [if_pos h]
theorem xor_cancel_right {a b x : Nat} (h : a ^^^ x = b ^^^ x) : a = b := by
  have e : ∀ n : Nat, (n ^^^ x) ^^^ x = n := fun n => by rw [Nat.xor_assoc, Nat.xor_self, Nat.xor_zero]
  rw [← e a, ← e b, h]
theorem xor_cancel_left {a b x : Nat} (h : x ^^^ a = x ^^^ b) : a = b := xor_cancel_right (x := x) (by rw [Nat.xor_comm a, Nat.xor_comm b, h])
theorem xor_eq_zero {a b : Nat} (h : a ^^^ b = 0) : a = b := xor_cancel_right (x := b) (by rw [h, Nat.xor_self])
theorem half_zero {r : Nat} (hr : r < 4294967296) (h : half r = 0) : r = 0 := by
  rcases Nat.mod_two_eq_zero_or_one r with h2 | h2
  · rw [half_even h2] at h; omega
  · rw [half_odd h2] at h
    have := xor_eq_zero h
    omega
theorem half_inj {a b : Nat} (ha : a < 4294967296) (hb : b < 4294967296) (h : half a = half b) : a = b := by
  apply xor_eq_zero
  apply half_zero (xor_lt ha hb)
  rw [half_xor, h, Nat.xor_self]
theorem step_inj {a b : Nat} (ha : a < 4294967296) (hb : b < 4294967296) (h : step a = step b) : a = b := by
  have L := @half_lt
  unfold step at h
  exact half_inj ha hb (half_inj (L ha) (L hb) (half_inj (L (L ha)) (L (L hb)) (half_inj (L (L (L ha))) (L (L (L hb)))
    (half_inj (L (L (L (L ha)))) (L (L (L (L hb)))) (half_inj (L (L (L (L (L ha))))) (L (L (L (L (L hb)))))
      (half_inj (L (L (L (L (L (L ha)))))) (L (L (L (L (L (L hb)))))) (half_inj (L (L (L (L (L (L (L ha))))))) (L (L (L (L (L (L (L hb))))))) h)))))))
/-- Nothing but whole bytes: eight halvings drop a byte of noughts. -/
theorem half_twice (x : Nat) : half (2 * x) = x := by rw [half_even (by omega)]; omega
theorem step_high (q : Nat) : step (256 * q) = q := by
  rw [show 256 * q = 2 * (2 * (2 * (2 * (2 * (2 * (2 * (2 * q))))))) by omega]
  unfold step
  simp only [half_twice]
/-- A byte at a time, out of a table of the bytes' steps. -/
theorem step_table (r b : Nat) (hb : b < 256) : step (r ^^^ b) = step (r % 256 ^^^ b) ^^^ r / 256 := by
  have h1 : r = 256 * (r / 256) ^^^ r % 256 := by
    have h2 : 256 * (r / 256) + r % 256 = 256 * (r / 256) ^^^ r % 256 := by
      have := Nat.two_pow_add_eq_or_of_lt (i := 8) (b := r % 256) (by omega) (r / 256)
      rw [show (2 : Nat) ^ 8 = 256 by rfl] at this
      rw [this]
      apply Nat.eq_of_testBit_eq
      intro i
      rw [Nat.testBit_or, Nat.testBit_xor, show 256 * (r / 256) = (r / 256) <<< 8 by rw [Nat.shiftLeft_eq]; omega, Nat.testBit_shiftLeft, show r % 256 = r % 2 ^ 8 by rfl, Nat.testBit_mod_two_pow]
      by_cases hi : i < 8
      · simp [hi, show ¬ 8 ≤ i by omega]
      · simp [hi]
    omega
  have h3 : r ^^^ b = 256 * (r / 256) ^^^ (r % 256 ^^^ b) := by
    rw [← Nat.xor_assoc, ← h1]
  rw [h3, step_xor, step_high, Nat.xor_comm]

theorem behind_nil (r : Nat) : behind r [] = r := rfl
theorem behind_append (r : Nat) (l m : List UInt8) : behind r (l ++ m) = behind (behind r l) m := by unfold behind; rw [List.foldl_append]
theorem behind_snoc (r : Nat) (l : List UInt8) (b : UInt8) : behind r (l ++ [b]) = step (behind r l ^^^ b.toNat) := by rw [behind_append]; rfl
theorem behind_inj {a b : Nat} (ha : a < 4294967296) (hb : b < 4294967296) (l : List UInt8) (h : behind a l = behind b l) : a = b := by
  induction l generalizing a b with
  | nil => exact h
  | cons x l ih =>
    have hx : x.toNat < 4294967296 := by have := x.toNat_lt; omega
    have h1 := ih (step_lt (xor_lt ha hx)) (step_lt (xor_lt hb hx)) h
    have h2 := step_inj (xor_lt ha hx) (xor_lt hb hx) h1
    exact xor_cancel_right h2
/-- Two texts unlike in one byte alone leave unlike registers. -/
theorem behind_one {r : Nat} (hr : r < 4294967296) (l m : List UInt8) (x y : UInt8) (h : behind r (l ++ x :: m) = behind r (l ++ y :: m)) : x = y := by
  rw [behind_append, behind_append] at h
  have hx : x.toNat < 4294967296 := by have := x.toNat_lt; omega
  have hy : y.toNat < 4294967296 := by have := y.toNat_lt; omega
  have hb := behind_lt hr l
  have h1 := behind_inj (step_lt (xor_lt hb hx)) (step_lt (xor_lt hb hy)) m h
  have h2 := step_inj (xor_lt hb hx) (xor_lt hb hy) h1
  exact UInt8.toNat_inj.1 (xor_cancel_left h2)
theorem crc_nil (c : Nat) (hc : c < 4294967296) : crc c [] = c := by unfold crc; rw [behind_nil]; omega
theorem crc_append (c : Nat) (l m : List UInt8) : crc (crc c l) m = crc c (l ++ m) := by
  unfold crc
  rw [behind_append, show 4294967295 - (4294967295 - behind (4294967295 - c) l) = behind (4294967295 - c) l by
    have := behind_lt (r := 4294967295 - c) (by omega) l; omega]
theorem crc_one {c : Nat} (l m : List UInt8) (x y : UInt8) (h : crc c (l ++ x :: m) = crc c (l ++ y :: m)) : x = y := by
  unfold crc at h
  have h1 := behind_lt (r := 4294967295 - c) (by omega) (l ++ x :: m)
  have h2 := behind_lt (r := 4294967295 - c) (by omega) (l ++ y :: m)
  exact behind_one (r := 4294967295 - c) (by omega) l m x y (by omega)

/-- The bytes of three texts, xored. -/
def xor3 : List UInt8 → List UInt8 → List UInt8 → List UInt8
  | a :: s, b :: t, c :: u => (a ^^^ b ^^^ c) :: xor3 s t u
  | _, _, _ => []
theorem xor3_length {s t u : List UInt8} (h1 : s.length = t.length) (h2 : t.length = u.length) : (xor3 s t u).length = s.length := by
  induction s generalizing t u with
  | nil => cases t <;> cases u <;> rfl
  | cons a s ih =>
    cases t with
    | nil => simp at h1
    | cons b t => cases u with
      | nil => simp at h2
      | cons c u => show (xor3 s t u).length + 1 = s.length + 1; rw [ih (by simpa using h1) (by simpa using h2)]
theorem xor3_snoc (s t u : List UInt8) (a b c : UInt8) (h1 : s.length = t.length) (h2 : t.length = u.length) : xor3 (s ++ [a]) (t ++ [b]) (u ++ [c]) = xor3 s t u ++ [a ^^^ b ^^^ c] := by
  induction s generalizing t u with
  | nil =>
    cases t with
    | nil => cases u with
      | nil => rfl
      | cons _ _ => simp at h2
    | cons _ _ => simp at h1
  | cons x s ih =>
    cases t with
    | nil => simp at h1
    | cons y t => cases u with
      | nil => simp at h2
      | cons z u =>
        show (x ^^^ y ^^^ z) :: xor3 (s ++ [a]) (t ++ [b]) (u ++ [c]) = (x ^^^ y ^^^ z) :: xor3 s t u ++ [a ^^^ b ^^^ c]
        rw [ih t u (by simpa using h1) (by simpa using h2)]
        rfl
theorem xor3_swap (a b c x y z : Nat) : (a ^^^ b ^^^ c) ^^^ (x ^^^ y ^^^ z) = (a ^^^ x) ^^^ (b ^^^ y) ^^^ (c ^^^ z) := by
  ac_rfl
theorem behind_xor3 (s t u : List UInt8) (a b c : Nat) (h1 : s.length = t.length) (h2 : t.length = u.length) :
    behind (a ^^^ b ^^^ c) (xor3 s t u) = behind a s ^^^ behind b t ^^^ behind c u := by
  induction s generalizing t u a b c with
  | nil =>
    cases t with
    | nil => cases u with
      | nil => rfl
      | cons _ _ => simp at h2
    | cons _ _ => simp at h1
  | cons x s ih =>
    cases t with
    | nil => simp at h1
    | cons y t => cases u with
      | nil => simp at h2
      | cons z u =>
        show behind (step ((a ^^^ b ^^^ c) ^^^ (x ^^^ y ^^^ z).toNat)) (xor3 s t u) = behind (step (a ^^^ x.toNat)) s ^^^ behind (step (b ^^^ y.toNat)) t ^^^ behind (step (c ^^^ z.toNat)) u
        rw [UInt8.toNat_xor, UInt8.toNat_xor, xor3_swap, step_xor, step_xor]
        exact ih t u _ _ _ (by simpa using h1) (by simpa using h2)
theorem not_xor {x : Nat} (h : x < 4294967296) : 4294967295 - x = x ^^^ 4294967295 := by
  apply Nat.eq_of_testBit_eq
  intro i
  have h2 : x < 2 ^ 32 := h
  rw [show 4294967295 - x = 2 ^ 32 - (x + 1) by omega, Nat.testBit_two_pow_sub_succ h2, Nat.testBit_xor, show (4294967295 : Nat) = 2 ^ 32 - 1 by rfl, Nat.testBit_two_pow_sub_one]
  by_cases hi : i < 32
  · simp [hi]
  · have := Nat.testBit_lt_two_pow (x := x) (i := i) (Nat.lt_of_lt_of_le h2 (Nat.pow_le_pow_right (by omega) (by omega)))
    simp [hi, this]
theorem crc_xor3 (s t u : List UInt8) (h1 : s.length = t.length) (h2 : t.length = u.length) : crc 0 (xor3 s t u) = crc 0 s ^^^ crc 0 t ^^^ crc 0 u := by
  have L := fun l => behind_lt (r := 4294967295) (by omega) l
  have H := behind_xor3 s t u 4294967295 4294967295 4294967295 h1 h2
  rw [Nat.xor_self, Nat.zero_xor] at H
  show 4294967295 - behind 4294967295 _ = (4294967295 - behind 4294967295 s) ^^^ (4294967295 - behind 4294967295 t) ^^^ (4294967295 - behind 4294967295 u)
  rw [H, not_xor (L s), not_xor (L t), not_xor (L u), not_xor (xor_lt (xor_lt (L s) (L t)) (L u))]
  generalize (4294967295 : Nat) = p
  rw [← xor3_swap, Nat.xor_self, Nat.zero_xor]

end Go.Proofs.Ytfancmomihdkbaa
