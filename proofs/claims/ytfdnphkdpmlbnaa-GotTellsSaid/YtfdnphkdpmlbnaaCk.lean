/-
  Chunks: their bytes, and what is read of bytes: plain functions and facts. No program is named here. What is built of a chunk is read as that chunk, whatever stands behind it: plain facts. No program is named here. Chunks there and back: what is built is read as it was; what is read is right, and built and read again the same: plain facts. No program is named here. What is read of bytes is right, has no more bytes than were read, and is read again when built; with a byte less than its length says there is none: plain facts. No program is named here. The first bytes of a chunk: plain facts. No function of the program is walked here.
-/
import Derived.Test.YtfdnphkdpmlbnaaItems
section
namespace Go.Proofs.Ytfdnphkdpmlbnaa
set_option linter.unusedVariables false

/-- A chunk. -/
structure Ck where
  type : Int
  flags : Int
  tsn : Nat
  tag : Nat
  window : Nat
  ppid : Nat
  stream : Nat
  ssn : Nat
  outs : Nat
  ins : Nat
  gaps : List (Nat × Nat)
  dups : List Nat
  items : List Item
  text : ByteArray
def noB : ByteArray := ⟨#[]⟩
def zeroC (k f : Int) : Ck := ⟨k, f, 0, 0, 0, 0, 0, 0, 0, 0, [], [], [], noB⟩
/-- Its numbers are of so many bits as its fields have. -/
structure WfC (c : Ck) : Prop where
  tsn : c.tsn < 4294967296
  tag : c.tag < 4294967296
  window : c.window < 4294967296
  ppid : c.ppid < 4294967296
  stream : c.stream < 65536
  ssn : c.ssn < 65536
  outs : c.outs < 65536
  ins : c.ins < 65536
  gaps : ∀ g ∈ c.gaps, g.1 < 65536 ∧ g.2 < 65536
  dups : ∀ d ∈ c.dups, d < 4294967296

/-- A number in four bytes. -/
def be32 (n : Nat) : List UInt8 := [UInt8.ofNat (n / 16777216), UInt8.ofNat (n / 65536), UInt8.ofNat (n / 256), UInt8.ofNat n]
def num4 (L : List UInt8) (i : Nat) : Nat := num L i * 65536 + num L (i + 2)
theorem be32_length (n : Nat) : (be32 n).length = 4 := rfl
theorem num4_lt (L : List UInt8) (i : Nat) : num4 L i < 4294967296 := by
  have h1 := num_lt L i
  have h2 := num_lt L (i + 2)
  unfold num4
  omega
theorem be32_split (n : Nat) : be32 n = be16 (n / 65536) ++ be16 n := by
  unfold be32 be16
  simp only [List.cons_append, List.nil_append]
  rw [Nat.div_div_eq_div_mul]
theorem be16_mod (n : Nat) : be16 (n % 65536) = be16 n := by
  unfold be16
  have e1 : UInt8.ofNat (n % 65536) = UInt8.ofNat n := UInt8.toNat_inj.1 (by rw [UInt8.toNat_ofNat', UInt8.toNat_ofNat']; omega)
  have e2 : UInt8.ofNat (n % 65536 / 256) = UInt8.ofNat (n / 256) := UInt8.toNat_inj.1 (by rw [UInt8.toNat_ofNat', UInt8.toNat_ofNat']; omega)
  rw [e1, e2]
theorem num_be16_mod (n : Nat) : num (be16 n) 0 = n % 65536 := by
  rw [← be16_mod, num_be16 (by omega)]
theorem num4_be32 {n : Nat} (h : n < 4294967296) (t : List UInt8) : num4 (be32 n ++ t) 0 = n := by
  have e1 : num (be32 n ++ t) 0 = n / 65536 := by
    rw [be32_split, List.append_assoc, num_left _ (by rw [be16_length]; omega), num_be16 (by omega)]
  have e2 : num (be32 n ++ t) (0 + 2) = n % 65536 := by
    rw [be32_split, List.append_assoc, show (0 + 2 : Nat) = (be16 (n / 65536)).length + 0 from rfl, num_right, num_left _ (by rw [be16_length]; omega), num_be16_mod]
  unfold num4
  rw [e1, e2]
  omega

/-! ### The bytes of a chunk -/
def numsL (c : Ck) : List UInt8 :=
  if c.type = 0 then be32 c.tsn ++ be16 c.stream ++ be16 c.ssn ++ be32 c.ppid
  else if c.type = 1 ∨ c.type = 2 then be32 c.tag ++ be32 c.window ++ be16 c.outs ++ be16 c.ins ++ be32 c.tsn
  else if c.type = 3 then be32 c.tsn ++ be32 c.window
  else if c.type = 7 then be32 c.tsn else []
def gapL (g : Nat × Nat) : List UInt8 := be16 g.1 ++ be16 g.2
def gapsL (l : List (Nat × Nat)) : List UInt8 := l.flatMap gapL
def dupsL (l : List Nat) : List UInt8 := l.flatMap be32
theorem gapsL_length (l : List (Nat × Nat)) : (gapsL l).length = 4 * l.length := by
  induction l with
  | nil => rfl
  | cons x l ih => simp only [gapsL, List.flatMap_cons, List.length_append, List.length_cons] at ih ⊢; rw [ih]; simp only [gapL, List.length_append, be16_length]; omega
theorem dupsL_length (l : List Nat) : (dupsL l).length = 4 * l.length := by
  induction l with
  | nil => rfl
  | cons x l ih => simp only [dupsL, List.flatMap_cons, List.length_append, List.length_cons] at ih ⊢; rw [ih, be32_length]; omega
def repL (c : Ck) : List UInt8 := be16 c.gaps.length ++ be16 c.dups.length ++ gapsL c.gaps ++ dupsL c.dups
/-- How many noughts a row of items ends with. -/
def lastPad : List Item → Nat
  | [] => 0
  | [x] => padN x.2.size
  | _ :: y :: l => lastPad (y :: l)
def itemsL (l : List Item) : List UInt8 := (rowL l).take ((rowL l).length - lastPad l)
def valueL (c : Ck) : List UInt8 := numsL c ++ (if c.type = 3 then repL c else []) ++ itemsL c.items ++ c.text.data.toList
def bytesC (c : Ck) : List UInt8 := [UInt8.ofNat c.type.toNat, UInt8.ofNat c.flags.toNat] ++ be16 (4 + (valueL c).length) ++ valueL c ++ zerosL (padN (4 + (valueL c).length))
theorem bytesC_length (c : Ck) : (bytesC c).length = 4 + (valueL c).length + padN (4 + (valueL c).length) := by
  unfold bytesC zerosL
  simp only [List.length_append, be16_length, List.length_replicate, List.length_cons, List.length_nil]

/-! ### Whether a chunk is right -/
/-- What chunks of a type have: flags; a text: at least, at most; items: at least, at most; gaps and dups at most. -/
def formOf (k : Int) : Int × (Int × Int) × (Int × Int) × Int :=
  if k = 0 then (7, (1, 1000), (0, 0), 0)
  else if k = 1 ∨ k = 2 then (0, (0, 0), (0, 9223372036854775807), 0)
  else if k = 3 then (0, (0, 0), (0, 0), 100)
  else if k = 4 ∨ k = 5 then (0, (0, 0), (1, 1), 0)
  else if k = 6 then (1, (0, 0), (0, 9223372036854775807), 0)
  else if k = 9 then (0, (0, 0), (1, 9223372036854775807), 0)
  else if k = 10 then (0, (1, 1000), (0, 0), 0)
  else if k = 7 ∨ k = 8 ∨ k = 11 then (0, (0, 0), (0, 0), 0)
  else if k = 14 then (1, (0, 0), (0, 0), 0)
  else (255, (0, 1000), (0, 0), 0)
def withinB (n a b : Int) : Bool := decide (a ≤ n ∧ n ≤ b)
/-- A chunk without the numbers of its type. -/
def eraseC (c : Ck) : Ck :=
  if c.type = 0 then { c with tsn := 0, stream := 0, ssn := 0, ppid := 0 }
  else if c.type = 1 ∨ c.type = 2 then { c with tag := 0, window := 0, outs := 0, ins := 0, tsn := 0 }
  else if c.type = 3 then { c with tsn := 0, window := 0 }
  else if c.type = 7 then { c with tsn := 0 } else c
def nothingB (c : Ck) : Bool := decide (c.tsn = 0 ∧ c.tag = 0 ∧ c.window = 0 ∧ c.ppid = 0) && decide (c.stream = 0 ∧ c.ssn = 0 ∧ c.outs = 0 ∧ c.ins = 0)
def ownB (c : Ck) : Bool := nothingB (eraseC c)
def apartB : Nat → List (Nat × Nat) → Bool
  | _, [] => true
  | n, g :: l => decide (n ≤ g.1 ∧ g.1 ≤ g.2) && apartB (g.2 + 2) l
def firstType : List Item → Int
  | [] => 0
  | x :: _ => x.1
def meantB (c : Ck) : Bool :=
  if c.type = 1 ∨ c.type = 2 then decide (c.tag ≠ 0) && decide (c.outs ≠ 0) && decide (c.ins ≠ 0)
  else if c.type = 3 then apartB 1 c.gaps
  else if c.type = 4 ∨ c.type = 5 then decide (firstType c.items = 1)
  else true
def formedB (c : Ck) : Bool :=
  withinB c.type 0 255 && withinB c.flags 0 (formOf c.type).1 && withinB (c.text.size : Int) (formOf c.type).2.1.1 (formOf c.type).2.1.2 &&
    withinB (c.items.length : Int) (formOf c.type).2.2.1.1 (formOf c.type).2.2.1.2 && decide ((c.gaps.length : Int) ≤ (formOf c.type).2.2.2) && decide ((c.dups.length : Int) ≤ (formOf c.type).2.2.2) && ownB c && meantB c
/-- What is built of a chunk, and which error is told. -/
def buildC (c : Ck) : ByteArray × Nat :=
  if (buildB c.items).2 ≠ 0 ∨ formedB c = false then (noB, 1) else if 1400 < 4 + (valueL c).length then (noB, 4) else (⟨(bytesC c).toArray⟩, 0)
theorem buildC_ok {c : Ck} (h : (buildC c).2 = 0) : (buildB c.items).2 = 0 ∧ formedB c = true ∧ 4 + (valueL c).length ≤ 1400 ∧ (buildC c).1 = ⟨(bytesC c).toArray⟩ := by
  unfold buildC at h ⊢
  split at h
  · exact absurd h (by decide)
  · rename_i h1
    split at h
    · exact absurd h (by decide)
    · rename_i h2
      rw [if_neg h1, if_neg h2]
      refine ⟨by omega, ?_, by omega, rfl⟩
      cases hf : formedB c with
      | true => rfl
      | false => exact absurd (.inr hf) h1
theorem buildC_of {c : Ck} (h1 : (buildB c.items).2 = 0) (h2 : formedB c = true) (h3 : 4 + (valueL c).length ≤ 1400) : buildC c = (⟨(bytesC c).toArray⟩, 0) := by
  unfold buildC
  rw [if_neg (by rw [h2]; simp [h1]), if_neg (by omega)]
theorem buildC_cases (c : Ck) : buildC c = (noB, 1) ∨ buildC c = (noB, 4) ∨ ((buildC c).2 = 0) := by
  unfold buildC
  repeat' split
  · exact .inl rfl
  · exact .inr (.inl rfl)
  · exact .inr (.inr rfl)
theorem buildC_none {c : Ck} (h : (buildC c).2 ≠ 0) : (buildC c).1 = noB := by
  rcases buildC_cases c with e | e | e
  · rw [e]
  · rw [e]
  · exact absurd e h

/-! ### What is read of bytes -/
def cutB (s : ByteArray) (k : Nat) : ByteArray := ⟨(s.data.toList.drop k).toArray⟩
def rd8 (s : ByteArray) (b : Bool) : Nat × ByteArray × Bool := if s.size < 1 then (0, noB, true) else (byteAt s.data.toList 0, cutB s 1, b)
def rd16 (s : ByteArray) (b : Bool) : Nat × ByteArray × Bool := if s.size < 2 then (0, noB, true) else (num s.data.toList 0, cutB s 2, b)
def rd32 (s : ByteArray) (b : Bool) : Nat × ByteArray × Bool := if s.size < 4 then (0, noB, true) else (num4 s.data.toList 0, cutB s 4, b)
def setNums (c : Ck) (s : ByteArray) (b : Bool) : Ck × ByteArray × Bool :=
  if c.type = 0 then
    let r1 := rd32 s b
    let r2 := rd16 r1.2.1 r1.2.2
    let r3 := rd16 r2.2.1 r2.2.2
    let r4 := rd32 r3.2.1 r3.2.2
    ({ c with tsn := r1.1, stream := r2.1, ssn := r3.1, ppid := r4.1 }, r4.2)
  else if c.type = 1 ∨ c.type = 2 then
    let r1 := rd32 s b
    let r2 := rd32 r1.2.1 r1.2.2
    let r3 := rd16 r2.2.1 r2.2.2
    let r4 := rd16 r3.2.1 r3.2.2
    let r5 := rd32 r4.2.1 r4.2.2
    ({ c with tag := r1.1, window := r2.1, outs := r3.1, ins := r4.1, tsn := r5.1 }, r5.2)
  else if c.type = 3 then
    let r1 := rd32 s b
    let r2 := rd32 r1.2.1 r1.2.2
    ({ c with tsn := r1.1, window := r2.1 }, r2.2)
  else if c.type = 7 then
    let r1 := rd32 s b
    ({ c with tsn := r1.1 }, r1.2)
  else (c, s, b)
def gapsAt (L : List UInt8) (n : Nat) : List (Nat × Nat) := (List.range n).map fun i => (num L (4 * i), num L (4 * i + 2))
def dupsAt (L : List UInt8) (p n : Nat) : List Nat := (List.range n).map fun i => num4 L (p + 4 * i)
def repsS (s : ByteArray) (b : Bool) : List (Nat × Nat) × List Nat × ByteArray × Bool :=
  let r1 := rd16 s b
  let r2 := rd16 r1.2.1 r1.2.2
  if r2.2.1.size = 4 * (r1.1 + r2.1) then (gapsAt r2.2.1.data.toList r1.1, dupsAt r2.2.1.data.toList (4 * r1.1) r2.1, noB, r2.2.2) else ([], [], r2.2.1, true)
def hasItems (k : Int) : Bool := decide (0 < (formOf k).2.2.1.2)
def parseV (k f : Int) (v : ByteArray) : Ck × Bool :=
  let r := setNums (zeroC k f) v false
  let q := if k = 3 then repsS r.2.1 r.2.2 else ([], [], r.2.1, r.2.2)
  let c1 : Ck := { r.1 with gaps := q.1, dups := q.2.1 }
  let p := if hasItems k then parseB q.2.2.1 else ([], 0, 0)
  let c2 : Ck := if hasItems k then { c1 with items := p.1 } else { c1 with text := q.2.2.1 }
  (c2, !q.2.2.2 && decide (p.2.2 = 0) && formedB c2)
def lenC (s : ByteArray) : Nat := num s.data.toList 2
def valC (s : ByteArray) : ByteArray := ⟨((s.data.toList.drop 4).take (lenC s - 4)).toArray⟩
def sizeC (s : ByteArray) : Nat := min (lenC s + padN (lenC s)) s.size
def tailC (s : ByteArray) : List UInt8 := (s.data.toList.drop (lenC s)).take (padN (lenC s))
def parseC (s : ByteArray) : Ck × Nat × Nat :=
  if s.size < 4 then (zeroC 0 0, 0, 3)
  else if s.size < lenC s then (zeroC 0 0, 0, 3)
  else if lenC s < 4 then (zeroC 0 0, 0, 2)
  else if 1400 < lenC s then (zeroC 0 0, 0, 4)
  else if (parseV (byteAt s.data.toList 0) (byteAt s.data.toList 1) (valC s)).2 = true ∧ tailC s = zerosL (tailC s).length then ((parseV (byteAt s.data.toList 0) (byteAt s.data.toList 1) (valC s)).1, sizeC s, 0)
  else (zeroC 0 0, 0, 2)
end Go.Proofs.Ytfdnphkdpmlbnaa
end
section
namespace Go.Proofs.Ytfdnphkdpmlbnaa
set_option linter.unusedVariables false

theorem toB_list (l : List UInt8) : (⟨l.toArray⟩ : ByteArray).data.toList = l := rfl
theorem toB_size (l : List UInt8) : (⟨l.toArray⟩ : ByteArray).size = l.length := by simp [ByteArray.size]
theorem ofB (s : ByteArray) : (⟨s.data.toList.toArray⟩ : ByteArray) = s := by cases s; simp
theorem cut_size (s : ByteArray) (k : Nat) : (cutB s k).size = s.size - k := by
  unfold cutB
  rw [toB_size, List.length_drop, ← size_list]
theorem rd32_back {n : Nat} (h : n < 4294967296) (t : List UInt8) (b : Bool) : rd32 ⟨(be32 n ++ t).toArray⟩ b = (n, ⟨t.toArray⟩, b) := by
  unfold rd32
  rw [if_neg (by rw [toB_size, List.length_append, be32_length]; omega), toB_list, num4_be32 h]
  rfl
theorem rd16_back {n : Nat} (h : n < 65536) (t : List UInt8) (b : Bool) : rd16 ⟨(be16 n ++ t).toArray⟩ b = (n, ⟨t.toArray⟩, b) := by
  unfold rd16
  rw [if_neg (by rw [toB_size, List.length_append, be16_length]; omega), toB_list, num_left _ (by rw [be16_length]; omega), num_be16 h]
  rfl
/-- The numbers of a chunk's type, and no others. -/
def numsOf (c : Ck) : Ck :=
  if c.type = 0 then { zeroC c.type c.flags with tsn := c.tsn, stream := c.stream, ssn := c.ssn, ppid := c.ppid }
  else if c.type = 1 ∨ c.type = 2 then { zeroC c.type c.flags with tag := c.tag, window := c.window, outs := c.outs, ins := c.ins, tsn := c.tsn }
  else if c.type = 3 then { zeroC c.type c.flags with tsn := c.tsn, window := c.window }
  else if c.type = 7 then { zeroC c.type c.flags with tsn := c.tsn }
  else zeroC c.type c.flags
theorem nums_back (c : Ck) (hw : WfC c) (t : List UInt8) : setNums (zeroC c.type c.flags) ⟨(numsL c ++ t).toArray⟩ false = (numsOf c, ⟨t.toArray⟩, false) := by
  unfold setNums numsL numsOf
  have e : (zeroC c.type c.flags).type = c.type := rfl
  rw [e]
  by_cases h0 : c.type = 0
  · simp only [if_pos h0, List.append_assoc, rd32_back hw.tsn, rd16_back hw.stream, rd16_back hw.ssn, rd32_back hw.ppid]
    rfl
  by_cases h1 : c.type = 1 ∨ c.type = 2
  · simp only [if_neg h0, if_pos h1, List.append_assoc, rd32_back hw.tsn, rd32_back hw.tag, rd32_back hw.window, rd16_back hw.outs, rd16_back hw.ins]
    rfl
  by_cases h3 : c.type = 3
  · simp only [if_neg h0, if_neg h1, if_pos h3, List.append_assoc, rd32_back hw.tsn, rd32_back hw.window]
    rfl
  by_cases h7 : c.type = 7
  · simp only [if_neg h0, if_neg h1, if_neg h3, if_pos h7, rd32_back hw.tsn]
    rfl
  · simp only [if_neg h0, if_neg h1, if_neg h3, if_neg h7, List.nil_append]
theorem gaps_read (l : List (Nat × Nat)) (h : ∀ g ∈ l, g.1 < 65536 ∧ g.2 < 65536) (t : List UInt8) : gapsAt (gapsL l ++ t) l.length = l := by
  induction l with
  | nil => rfl
  | cons x l ih =>
    have hx := h x (by simp)
    have ih' := ih fun g hg => h g (by simp [hg])
    unfold gapsAt at ih' ⊢
    have e0 : gapsL (x :: l) ++ t = be16 x.1 ++ (be16 x.2 ++ (gapsL l ++ t)) := by simp [gapsL, gapL, List.append_assoc]
    have e1 : num (gapsL (x :: l) ++ t) 0 = x.1 := by rw [e0, num_left _ (by rw [be16_length]; omega), num_be16 hx.1]
    have e2 : num (gapsL (x :: l) ++ t) 2 = x.2 := by
      rw [e0, show (2 : Nat) = (be16 x.1).length + 0 from rfl, num_right, num_left _ (by rw [be16_length]; omega), num_be16 hx.2]
    have e3 : ∀ i, num (gapsL (x :: l) ++ t) (4 + i) = num (gapsL l ++ t) i := by
      intro i
      rw [e0, ← List.append_assoc, show 4 + i = (be16 x.1 ++ be16 x.2).length + i from rfl, num_right]
    rw [List.length_cons, List.range_succ_eq_map, List.map_cons, List.map_map]
    rw [show (fun i => (num (gapsL (x :: l) ++ t) (4 * i), num (gapsL (x :: l) ++ t) (4 * i + 2))) ∘ Nat.succ = fun i => (num (gapsL l ++ t) (4 * i), num (gapsL l ++ t) (4 * i + 2)) from by
      funext i
      simp only [Function.comp]
      rw [show 4 * Nat.succ i = 4 + 4 * i by omega, e3, show 4 + 4 * i + 2 = 4 + (4 * i + 2) by omega, e3]]
    rw [ih', Nat.mul_zero, Nat.zero_add, e1, e2]
theorem dups_read (l : List Nat) (h : ∀ d ∈ l, d < 4294967296) (a t : List UInt8) : dupsAt (a ++ (dupsL l ++ t)) a.length l.length = l := by
  induction l generalizing a with
  | nil => rfl
  | cons x l ih =>
    have hx := h x (by simp)
    have ih' := ih (fun g hg => h g (by simp [hg])) (a ++ be32 x)
    have e0 : a ++ (dupsL (x :: l) ++ t) = a ++ be32 x ++ (dupsL l ++ t) := by simp [dupsL, List.append_assoc]
    have r : ∀ (a b : List UInt8) (i : Nat), num4 (a ++ b) (a.length + i) = num4 b i := by
      intro a b i
      unfold num4
      rw [num_right, Nat.add_assoc, num_right]
    have e1 : num4 (a ++ (dupsL (x :: l) ++ t)) (a.length + 4 * 0) = x := by
      rw [r]
      have : dupsL (x :: l) ++ t = be32 x ++ (dupsL l ++ t) := by simp [dupsL, List.append_assoc]
      rw [this]
      exact num4_be32 hx _
    unfold dupsAt at ih' ⊢
    rw [List.length_cons, List.range_succ_eq_map, List.map_cons, List.map_map, e1]
    have e2 : ((fun i => num4 (a ++ (dupsL (x :: l) ++ t)) (a.length + 4 * i)) ∘ Nat.succ) = fun i => num4 (a ++ be32 x ++ (dupsL l ++ t)) ((a ++ be32 x).length + 4 * i) := by
      funext i
      simp only [Function.comp]
      rw [e0, List.length_append, be32_length]
      congr 1
      omega
    rw [e2, ih']
theorem reps_back (c : Ck) (hw : WfC c) (h1 : c.gaps.length < 65536) (h2 : c.dups.length < 65536) : repsS ⟨(repL c).toArray⟩ false = (c.gaps, c.dups, noB, false) := by
  unfold repsS repL
  simp only [List.append_assoc, rd16_back h1, rd16_back h2]
  rw [if_pos (by rw [toB_size, List.length_append, gapsL_length, dupsL_length]; omega)]
  have e1 := gaps_read c.gaps hw.gaps (dupsL c.dups)
  have e2 := dups_read c.dups hw.dups (gapsL c.gaps) []
  rw [List.append_nil] at e2
  rw [gapsL_length] at e2
  show (gapsAt (gapsL c.gaps ++ dupsL c.dups) c.gaps.length, dupsAt (gapsL c.gaps ++ dupsL c.dups) (4 * c.gaps.length) c.dups.length, noB, false) = _
  rw [e1, e2]
/-! ### Items without the last noughts -/
theorem itemsL_nil : itemsL [] = [] := rfl
theorem itemsL_one (x : Item) : itemsL [x] = be16 x.1.toNat ++ be16 (4 + x.2.size) ++ x.2.data.toList := by
  have hl := bytesL_length x
  have e : padN x.2.size = padN (4 + x.2.size) := (padN_head _).symm
  have h0 : (be16 x.1.toNat ++ be16 (4 + x.2.size) ++ x.2.data.toList).length = 4 + x.2.size := by simp only [List.length_append, be16_length, ← size_list]
  have e3 : rowL [x] = be16 x.1.toNat ++ be16 (4 + x.2.size) ++ x.2.data.toList ++ zerosL (padN (4 + x.2.size)) := by rw [rowL_cons, rowL_nil, List.append_nil]; rfl
  have e4 : (rowL [x]).length = 4 + x.2.size + padN (4 + x.2.size) := by rw [rowL_cons, rowL_nil, List.append_nil, hl]
  unfold itemsL
  rw [e4, lastPad, e, Nat.add_sub_cancel, e3, List.take_append_of_le_length (by omega), List.take_of_length_le (by omega)]
theorem lastPad_le : ∀ l : List Item, lastPad l ≤ (rowL l).length
  | [] => Nat.le_refl _
  | [x] => by
    rw [rowL_cons, rowL_nil, List.append_nil, bytesL_length, lastPad]
    have e : padN x.2.size = padN (4 + x.2.size) := (padN_head _).symm
    omega
  | x :: y :: l => by
    rw [lastPad, rowL_cons, List.length_append]
    have := lastPad_le (y :: l)
    omega
theorem itemsL_cons (x y : Item) (l : List Item) : itemsL (x :: y :: l) = bytesL x ++ itemsL (y :: l) := by
  have h := lastPad_le (y :: l)
  unfold itemsL
  rw [rowL_cons, lastPad, List.length_append, Nat.add_sub_assoc h, List.take_append, List.take_of_length_le (by omega), Nat.add_sub_cancel_left]
theorem itemsL_length (l : List Item) : (itemsL l).length = (rowL l).length - lastPad l := by
  unfold itemsL
  rw [List.length_take]
  omega
theorem cut_one (x : Item) (h1 : isType x.1 = true) (h2 : x.2.size ≤ 1400) : parseL (itemsL [x]) = ([x], 0, 0) := by
  have ht := of_decide_eq_true h1
  have hsz := size_list x.2
  rw [itemsL_one]
  generalize hL : be16 x.1.toNat ++ be16 (4 + x.2.size) ++ x.2.data.toList = L
  have hl : L.length = 4 + x.2.size := by rw [← hL]; simp only [List.length_append, be16_length, ← size_list]
  have n0 : num L 0 = x.1.toNat := by rw [← hL, List.append_assoc, num_left _ (by rw [be16_length]; omega), num_be16 (by omega)]
  have n2 : num L 2 = 4 + x.2.size := by
    rw [← hL, List.append_assoc, show (2 : Nat) = (be16 x.1.toNat).length + 0 from rfl, num_right, num_left _ (by rw [be16_length]; omega), num_be16 (by omega)]
  have e4 : L.drop 4 = x.2.data.toList := by
    rw [← hL, List.append_assoc, ← List.append_assoc, List.drop_append_of_le_length (by simp [be16_length]), List.drop_of_length_le (by simp [be16_length])]
    rfl
  have hn : L ≠ [] := by intro h0; rw [h0] at hl; simp at hl; omega
  have htl : tailL L = [] := by unfold tailL; rw [n2, List.drop_eq_nil_of_le (by omega), List.take_nil]
  have he : errL L = 0 := errL_of (by omega) (by omega) (by omega) (by omega) (by rw [htl]; rfl)
  have hd : L.drop (sizeL L) = [] := List.drop_eq_nil_of_le (by unfold sizeL; omega)
  rw [parseL_ok hn he (by rw [hd, parseL_nil]), hd, parseL_nil]
  have hi : itemL L = x := by
    unfold itemL valL
    rw [n0, n2, e4, Nat.add_sub_cancel_left, List.take_of_length_le (by omega)]
    refine Prod.ext ?_ ?_
    · show ((x.1.toNat : Nat) : Int) = x.1
      omega
    · exact bytes_ext (by simp)
  rw [hi]
theorem cut_row : ∀ l : List Item, l.all rightI = true → parseL (itemsL l) = (l, 0, 0)
  | [], _ => parseL_nil
  | [x], h => by
    simp only [List.all_cons, Bool.and_eq_true, rightI, decide_eq_true_eq] at h
    exact cut_one x h.1.1 h.1.2
  | x :: y :: l, h => by
    have h' := h
    simp only [List.all_cons, Bool.and_eq_true, rightI, decide_eq_true_eq] at h
    obtain ⟨⟨h1, h2⟩, hl⟩ := h
    have ih := cut_row (y :: l) (by simp only [List.all_cons, Bool.and_eq_true] at h' ⊢; exact h'.2)
    obtain ⟨he, hs, hi⟩ := bytes_read x (itemsL (y :: l)) h1 h2
    have hn : bytesL x ++ itemsL (y :: l) ≠ [] := by intro h0; have := congrArg List.length h0; rw [List.length_append, bytesL_length] at this; simp at this
    have hd : (bytesL x ++ itemsL (y :: l)).drop (sizeL (bytesL x ++ itemsL (y :: l))) = itemsL (y :: l) := by rw [hs, List.drop_append_of_le_length (Nat.le_refl _), List.drop_of_length_le (Nat.le_refl _)]; rfl
    rw [itemsL_cons, parseL_ok hn he (by rw [hd, ih]), hd, ih, hi]
/-- What is read has, built without the last noughts, no more bytes than it was read of. -/
theorem read_cut : ∀ (n : Nat) (L : List UInt8), L.length ≤ n → (parseL L).2.2 = 0 → (itemsL (parseL L).1).length ≤ L.length ∧ (L ≠ [] → (parseL L).1 ≠ []) := by
  intro n
  induction n with
  | zero => intro L hL _; have : L = [] := List.eq_nil_of_length_eq_zero (by omega); subst this; rw [parseL_nil]; simp [itemsL_nil]
  | succ n ih =>
    intro L hL h
    by_cases h0 : L = []
    · subst h0; rw [parseL_nil]; simp [itemsL_nil]
    by_cases he : errL L = 0
    · by_cases hr : (parseL (L.drop (sizeL L))).2.2 = 0
      · have hp := sizeL_pos he
        obtain ⟨g0, g1, g2, g3, g4⟩ := errL_ok he
        have hl := List.length_pos_iff.2 h0
        obtain ⟨i1, i2⟩ := ih (L.drop (sizeL L)) (by rw [List.length_drop]; omega) hr
        rw [parseL_ok h0 he hr]
        refine ⟨?_, fun _ => by simp⟩
        have hv : (itemL L).2.size = num L 2 - 4 := by
          show (valL L).size = _
          unfold valL
          simp only [ByteArray.size, List.size_toArray, List.length_take, List.length_drop]
          omega
        cases hm : (parseL (L.drop (sizeL L))).1 with
        | nil =>
          rw [itemsL_one]
          simp only [List.length_append, be16_length, ← size_list, hv]
          omega
        | cons y l =>
          rw [hm] at i1
          rw [itemsL_cons, List.length_append, bytesL_length, hv]
          have hne : L.drop (sizeL L) ≠ [] := by
            intro e
            rw [e, parseL_nil] at hm
            cases hm
          have hlt : sizeL L < L.length := by
            apply Nat.lt_of_not_le
            intro hc
            exact hne (List.drop_eq_nil_of_le hc)
          rw [List.length_drop] at i1
          have hsz : sizeL L = num L 2 + padN (num L 2) := rfl
          rw [show 4 + (num L 2 - 4) = num L 2 by omega]
          omega
      · rw [parseL_later h0 he hr] at h
        exact absurd h hr
    · rw [parseL_err h0 he] at h
      exact absurd h he
end Go.Proofs.Ytfdnphkdpmlbnaa
end
section
namespace Go.Proofs.Ytfdnphkdpmlbnaa
set_option linter.unusedVariables false

theorem within_true {n a b : Int} : withinB n a b = true ↔ a ≤ n ∧ n ≤ b := by unfold withinB; simp
theorem formed_parts {c : Ck} (h : formedB c = true) : (0 ≤ c.type ∧ c.type ≤ 255) ∧ (0 ≤ c.flags ∧ c.flags ≤ (formOf c.type).1) ∧ ((formOf c.type).2.1.1 ≤ (c.text.size : Int) ∧ (c.text.size : Int) ≤ (formOf c.type).2.1.2) ∧
    ((formOf c.type).2.2.1.1 ≤ (c.items.length : Int) ∧ (c.items.length : Int) ≤ (formOf c.type).2.2.1.2) ∧ (c.gaps.length : Int) ≤ (formOf c.type).2.2.2 ∧ (c.dups.length : Int) ≤ (formOf c.type).2.2.2 ∧ ownB c = true ∧ meantB c = true := by
  unfold formedB at h
  simp only [Bool.and_eq_true, within_true, decide_eq_true_eq] at h
  obtain ⟨⟨⟨⟨⟨⟨⟨h1, h2⟩, h3⟩, h4⟩, h5⟩, h6⟩, h7⟩, h8⟩ := h
  exact ⟨h1, h2, h3, h4, h5, h6, h7, h8⟩
theorem nothing_true {c : Ck} (h : nothingB c = true) : c.tsn = 0 ∧ c.tag = 0 ∧ c.window = 0 ∧ c.ppid = 0 ∧ c.stream = 0 ∧ c.ssn = 0 ∧ c.outs = 0 ∧ c.ins = 0 := by
  unfold nothingB at h
  simp only [Bool.and_eq_true, decide_eq_true_eq] at h
  obtain ⟨⟨a, b, c, d⟩, e, f, g, i⟩ := h
  exact ⟨a, b, c, d, e, f, g, i⟩
theorem own_nums {c : Ck} (h : ownB c = true) : { numsOf c with gaps := c.gaps, dups := c.dups, items := c.items, text := c.text } = c := by
  have h' := nothing_true h
  obtain ⟨ty, fl, a, b, d, e, f, g, i, j, ga, du, it, te⟩ := c
  unfold eraseC at h'
  unfold numsOf
  repeat' split at h'
  all_goals
    dsimp only at h'
    obtain ⟨h1, h2, h3, h4, h5, h6, h7, h8⟩ := h'
    dsimp only at *
  all_goals simp_all [zeroC]
theorem nums_lack (c : Ck) : (numsOf c).items = [] ∧ (numsOf c).text = noB := by
  unfold numsOf
  by_cases h0 : c.type = 0
  · rw [if_pos h0]; exact ⟨rfl, rfl⟩
  rw [if_neg h0]
  by_cases h1 : c.type = 1 ∨ c.type = 2
  · rw [if_pos h1]; exact ⟨rfl, rfl⟩
  rw [if_neg h1]
  by_cases h3 : c.type = 3
  · rw [if_pos h3]; exact ⟨rfl, rfl⟩
  rw [if_neg h3]
  by_cases h7 : c.type = 7
  · rw [if_pos h7]; exact ⟨rfl, rfl⟩
  rw [if_neg h7]
  exact ⟨rfl, rfl⟩
theorem flags_le (k : Int) : (formOf k).1 ≤ 255 := by
  unfold formOf
  repeat' split
  all_goals (dsimp only; omega)
theorem empty_of {s : ByteArray} (h : (s.size : Int) ≤ 0) : s = noB := by
  apply bytes_ext
  rw [size_list] at h
  show _ = ([] : List UInt8)
  exact List.eq_nil_of_length_eq_zero (by omega)
/-- What a chunk that is right has not. -/
theorem formed_lacks {c : Ck} (h : formedB c = true) : (hasItems c.type = false → c.items = []) ∧ (hasItems c.type = true → c.text = noB) ∧ (c.type ≠ 3 → c.gaps = [] ∧ c.dups = []) ∧ (c.type = 3 → hasItems c.type = false ∧ c.text = noB ∧ c.gaps.length ≤ 100 ∧ c.dups.length ≤ 100) := by
  obtain ⟨p1, p2, p3, p4, p5, p6, p7, p8⟩ := formed_parts h
  have nil1 : ∀ {α : Type} (l : List α), (l.length : Int) ≤ 0 → l = [] := fun l hl => List.eq_nil_of_length_eq_zero (by omega)
  unfold hasItems
  by_cases h3 : c.type = 3
  · have e : formOf c.type = (0, (0, 0), (0, 0), 100) := by rw [h3]; rfl
    rw [e] at p3 p4 p5 p6 ⊢
    dsimp only at p3 p4 p5 p6 ⊢
    exact ⟨fun _ => nil1 _ p4.2, fun hc => absurd hc (by decide), fun hc => absurd h3 hc, fun _ => ⟨by decide, empty_of p3.2, by omega, by omega⟩⟩
  · have e4 : (formOf c.type).2.2.2 = 0 := by
      unfold formOf
      simp only [if_neg h3]
      repeat' split
      all_goals rfl
    have e5 : 0 < (formOf c.type).2.2.1.2 → (formOf c.type).2.1.2 = 0 := by
      unfold formOf
      repeat' split
      all_goals (dsimp only; omega)
    have e6 : ¬ 0 < (formOf c.type).2.2.1.2 → (formOf c.type).2.2.1.2 = 0 := by
      unfold formOf
      repeat' split
      all_goals (dsimp only; omega)
    rw [e4] at p5 p6
    refine ⟨fun hc => ?_, fun hc => ?_, fun _ => ⟨nil1 _ p5, nil1 _ p6⟩, fun hc => absurd hc h3⟩
    · have := e6 (of_decide_eq_false hc)
      rw [this] at p4
      exact nil1 _ p4.2
    · have := e5 (of_decide_eq_true hc)
      rw [this] at p3
      exact empty_of p3.2
theorem items_back {l : List Item} (h : (buildB l).2 = 0) (hs : (itemsL l).length ≤ 4000) : parseB ⟨(itemsL l).toArray⟩ = (l, 0, 0) := by
  unfold parseB
  rw [if_neg (by rw [toB_size]; omega), toB_list]
  exact cut_row l (build_ok h).1
theorem value_back {c : Ck} (hw : WfC c) (h1 : (buildB c.items).2 = 0) (h2 : formedB c = true) (h3 : 4 + (valueL c).length ≤ 1400) : parseV c.type c.flags ⟨(valueL c).toArray⟩ = (c, true) := by
  obtain ⟨l1, l2, l3, l4⟩ := formed_lacks h2
  have hown := own_nums (formed_parts h2).2.2.2.2.2.2.1
  have hval : valueL c = numsL c ++ ((if c.type = 3 then repL c else []) ++ itemsL c.items ++ c.text.data.toList) := by unfold valueL; simp only [List.append_assoc]
  have hlen : (itemsL c.items).length ≤ 4000 := by
    have := congrArg List.length hval
    simp only [List.length_append] at this
    omega
  have hfin : ∀ c' : Ck, c' = c → ((c', !false && decide ((0 : Nat) = 0) && formedB c') : Ck × Bool) = (c, true) := by
    rintro c' rfl
    rw [h2]
    rfl
  unfold parseV
  rw [hval, nums_back c hw]
  dsimp only
  by_cases t3 : c.type = 3
  · obtain ⟨q1, q2, q3, q4⟩ := l4 t3
    have ei := l1 q1
    have e : (if c.type = 3 then repL c else []) ++ itemsL c.items ++ c.text.data.toList = repL c := by
      rw [if_pos t3, ei, q2]
      show repL c ++ [] ++ [] = _
      simp
    rw [e, if_pos t3, reps_back c hw (by omega) (by omega)]
    simp only [q1, Bool.false_eq_true, if_false]
    refine hfin _ ?_
    have : (noB : ByteArray) = c.text := q2.symm
    rw [this]
    conv => rhs; rw [← hown]
    rw [ei]
    have e3 : (numsOf c).items = [] := (nums_lack c).1
    rw [← e3]
  · obtain ⟨g1, g2⟩ := l3 t3
    rw [if_neg t3]
    cases hi : hasItems c.type with
    | true =>
      have et := l2 hi
      have e : (if c.type = 3 then repL c else []) ++ itemsL c.items ++ c.text.data.toList = itemsL c.items := by
        rw [if_neg t3, et]
        show [] ++ itemsL c.items ++ [] = _
        simp
      rw [e, items_back h1 hlen]
      simp only [if_true]
      refine hfin _ ?_
      conv => rhs; rw [← hown]
      rw [g1, g2, et]
      have e3 : (numsOf c).text = noB := (nums_lack c).2
      rw [← e3]
    | false =>
      have ei := l1 hi
      have e : (if c.type = 3 then repL c else []) ++ itemsL c.items ++ c.text.data.toList = c.text.data.toList := by
        rw [if_neg t3, ei]
        rfl
      rw [e, ofB]
      simp only [Bool.false_eq_true, if_false]
      refine hfin _ ?_
      conv => rhs; rw [← hown]
      rw [g1, g2, ei]
      have e3 : (numsOf c).items = [] := (nums_lack c).1
      rw [← e3]
theorem type_byte {n : Int} (h : 0 ≤ n ∧ n ≤ 255) : ((UInt8.ofNat n.toNat).toNat : Int) = n := by
  rw [UInt8.toNat_ofNat_of_lt' (show n.toNat < 256 by omega)]
  omega
theorem zerosL_eq (l : List UInt8) {n k : Nat} (h : l = zerosL n) : l = zerosL l.length := by subst h; simp [zerosL]
theorem bytes_heads (c : Ck) (t : List UInt8) (h2 : formedB c = true) (h3 : 4 + (valueL c).length ≤ 1400) :
    ((byteAt (bytesC c ++ t) 0 : Nat) : Int) = c.type ∧ ((byteAt (bytesC c ++ t) 1 : Nat) : Int) = c.flags ∧ num (bytesC c ++ t) 2 = 4 + (valueL c).length := by
  have hp := formed_parts h2
  have hf := flags_le c.type
  have e : bytesC c ++ t = UInt8.ofNat c.type.toNat :: UInt8.ofNat c.flags.toNat :: (be16 (4 + (valueL c).length) ++ (valueL c ++ zerosL (padN (4 + (valueL c).length)) ++ t)) := by
    unfold bytesC
    simp only [List.append_assoc, List.cons_append, List.nil_append]
  rw [e]
  refine ⟨type_byte hp.1, type_byte ⟨hp.2.1.1, by omega⟩, ?_⟩
  have e2 : ∀ (a b : UInt8) (l : List UInt8), num (a :: b :: l) 2 = num l 0 := fun a b l => num_right [a, b] l 0
  rw [e2, num_left _ (by rw [be16_length]; omega), num_be16 (by omega)]
/-- What is built is read as it was, whatever stands behind it. -/
theorem chunk_back {c : Ck} (hw : WfC c) (h : (buildC c).2 = 0) (t : ByteArray) : parseC ((buildC c).1 ++ t) = (c, (buildC c).1.size, 0) := by
  obtain ⟨h1, h2, h3, h4⟩ := buildC_ok h
  rw [h4]
  have hL : ((⟨(bytesC c).toArray⟩ : ByteArray) ++ t).data.toList = bytesC c ++ t.data.toList := by rw [ByteArray.data_append, Array.toList_append]
  generalize hs : (⟨(bytesC c).toArray⟩ : ByteArray) ++ t = s at *
  have hsz : s.size = (bytesC c).length + t.data.toList.length := by rw [size_list, hL, List.length_append]
  have hb := bytesC_length c
  obtain ⟨b0, b1, b2⟩ := bytes_heads c t.data.toList h2 h3
  rw [← hL] at b0 b1 b2
  have hlen : lenC s = 4 + (valueL c).length := b2
  have hval : valC s = ⟨(valueL c).toArray⟩ := by
    unfold valC
    rw [hlen, Nat.add_sub_cancel_left, hL]
    have e : bytesC c ++ t.data.toList = [UInt8.ofNat c.type.toNat, UInt8.ofNat c.flags.toNat] ++ be16 (4 + (valueL c).length) ++ (valueL c ++ (zerosL (padN (4 + (valueL c).length)) ++ t.data.toList)) := by
      unfold bytesC
      simp only [List.append_assoc]
    rw [e]
    generalize hd : [UInt8.ofNat c.type.toNat, UInt8.ofNat c.flags.toNat] ++ be16 (4 + (valueL c).length) = H
    have hH : H.length = 4 := by rw [← hd]; rfl
    rw [List.drop_append_of_le_length (by omega), List.drop_of_length_le (by omega), List.nil_append, List.take_append_of_le_length (Nat.le_refl _), List.take_of_length_le (Nat.le_refl _)]
  have htail : tailC s = zerosL (padN (4 + (valueL c).length)) := by
    unfold tailC
    rw [hlen, hL]
    have e : bytesC c ++ t.data.toList = ([UInt8.ofNat c.type.toNat, UInt8.ofNat c.flags.toNat] ++ be16 (4 + (valueL c).length) ++ valueL c) ++ (zerosL (padN (4 + (valueL c).length)) ++ t.data.toList) := by
      unfold bytesC
      simp only [List.append_assoc]
    rw [e]
    generalize hd : [UInt8.ofNat c.type.toNat, UInt8.ofNat c.flags.toNat] ++ be16 (4 + (valueL c).length) ++ valueL c = H
    have hH : H.length = 4 + (valueL c).length := by rw [← hd]; simp only [List.length_append, be16_length, List.length_cons, List.length_nil]
    rw [List.drop_append_of_le_length (by omega), List.drop_of_length_le (by omega), List.nil_append]
    exact zerosL_take (Nat.le_refl _) _
  unfold parseC
  rw [b0, b1, hval, value_back hw h1 h2 h3, hlen, if_neg (by omega), if_neg (by omega), if_neg (by omega), if_neg (by omega), if_pos ⟨rfl, by rw [htail]; simp [zerosL]⟩]
  have e : sizeC s = (bytesC c).length := by
    unfold sizeC
    rw [hlen]
    omega
  rw [e, toB_size]
end Go.Proofs.Ytfdnphkdpmlbnaa
end
section
namespace Go.Proofs.Ytfdnphkdpmlbnaa
set_option linter.unusedVariables false

theorem rd32_fst (s : ByteArray) (b : Bool) : (rd32 s b).1 < 4294967296 := by
  unfold rd32
  split
  · show (0 : Nat) < _; omega
  · exact num4_lt _ _
theorem rd16_fst (s : ByteArray) (b : Bool) : (rd16 s b).1 < 65536 := by
  unfold rd16
  split
  · show (0 : Nat) < _; omega
  · exact num_lt _ _
theorem rd8_fst (s : ByteArray) (b : Bool) : (rd8 s b).1 < 256 := by
  unfold rd8
  split
  · show (0 : Nat) < _; omega
  · exact byteAt_lt _ _
theorem rd32_fine {s : ByteArray} {b : Bool} (h : (rd32 s b).2.2 = false) : b = false ∧ s.size = (rd32 s b).2.1.size + 4 := by
  unfold rd32 at h ⊢
  split at h
  · cases h
  · rename_i hs
    rw [if_neg hs, cut_size]
    exact ⟨h, by omega⟩
theorem rd16_fine {s : ByteArray} {b : Bool} (h : (rd16 s b).2.2 = false) : b = false ∧ s.size = (rd16 s b).2.1.size + 2 := by
  unfold rd16 at h ⊢
  split at h
  · cases h
  · rename_i hs
    rw [if_neg hs, cut_size]
    exact ⟨h, by omega⟩
theorem rd_size32 (s : ByteArray) (b : Bool) : (rd32 s b).2.1.size ≤ s.size := by
  unfold rd32
  split
  · exact Nat.zero_le _
  · rw [cut_size]; omega
theorem rd_size16 (s : ByteArray) (b : Bool) : (rd16 s b).2.1.size ≤ s.size := by
  unfold rd16
  split
  · exact Nat.zero_le _
  · rw [cut_size]; omega
/-- A chunk but for the lists and the text of one. -/
theorem wf_nums (k f : Int) (a b c d e g h i : Nat) (w1 : a < 4294967296) (w2 : b < 4294967296) (w3 : c < 4294967296) (w4 : d < 4294967296) (w5 : e < 65536) (w6 : g < 65536) (w7 : h < 65536) (w8 : i < 65536) (ga : List (Nat × Nat)) (du : List Nat) (it : List Item) (te : ByteArray)
    (hg : ∀ g ∈ ga, g.1 < 65536 ∧ g.2 < 65536) (hd : ∀ d ∈ du, d < 4294967296) : WfC ⟨k, f, a, b, c, d, e, g, h, i, ga, du, it, te⟩ := ⟨w1, w2, w3, w4, w5, w6, w7, w8, hg, hd⟩
theorem set_facts (k f : Int) (s : ByteArray) : ∃ a b c d e g h i, (setNums (zeroC k f) s false).1 = ⟨k, f, a, b, c, d, e, g, h, i, [], [], [], noB⟩ ∧ (a < 4294967296 ∧ b < 4294967296 ∧ c < 4294967296 ∧ d < 4294967296) ∧ (e < 65536 ∧ g < 65536 ∧ h < 65536 ∧ i < 65536) ∧
    ((setNums (zeroC k f) s false).2.2 = false → s.size = (setNums (zeroC k f) s false).2.1.size + (numsL ⟨k, f, a, b, c, d, e, g, h, i, [], [], [], noB⟩).length) ∧ (setNums (zeroC k f) s false).2.1.size ≤ s.size := by
  unfold setNums numsL
  have et : (zeroC k f).type = k := rfl
  rw [et]
  by_cases h0 : k = 0
  · simp only [if_pos h0]
    refine ⟨(rd32 s false).1, 0, 0, _, (rd16 _ _).1, (rd16 _ _).1, 0, 0, rfl, ⟨rd32_fst _ _, by omega, by omega, rd32_fst _ _⟩, ⟨rd16_fst _ _, rd16_fst _ _, by omega, by omega⟩, fun hb => ?_, ?_⟩
    · obtain ⟨b4, s4⟩ := rd32_fine hb
      obtain ⟨b3, s3⟩ := rd16_fine b4
      obtain ⟨b2, s2⟩ := rd16_fine b3
      obtain ⟨b1, s1⟩ := rd32_fine b2
      simp only [List.length_append, be32_length, be16_length]
      omega
    · have a1 := rd_size32 s false
      have a2 := rd_size16 (rd32 s false).2.1 (rd32 s false).2.2
      have a3 := rd_size16 (rd16 (rd32 s false).2.1 (rd32 s false).2.2).2.1 (rd16 (rd32 s false).2.1 (rd32 s false).2.2).2.2
      exact Nat.le_trans (rd_size32 _ _) (by omega)
  by_cases h1 : k = 1 ∨ k = 2
  · simp only [if_neg h0, if_pos h1]
    refine ⟨_, (rd32 s false).1, (rd32 _ _).1, 0, 0, 0, (rd16 _ _).1, (rd16 _ _).1, rfl, ⟨rd32_fst _ _, rd32_fst _ _, rd32_fst _ _, by omega⟩, ⟨by omega, by omega, rd16_fst _ _, rd16_fst _ _⟩, fun hb => ?_, ?_⟩
    · obtain ⟨b5, s5⟩ := rd32_fine hb
      obtain ⟨b4, s4⟩ := rd16_fine b5
      obtain ⟨b3, s3⟩ := rd16_fine b4
      obtain ⟨b2, s2⟩ := rd32_fine b3
      obtain ⟨b1, s1⟩ := rd32_fine b2
      simp only [List.length_append, be32_length, be16_length]
      omega
    · refine Nat.le_trans (rd_size32 _ _) (Nat.le_trans (rd_size16 _ _) (Nat.le_trans (rd_size16 _ _) (Nat.le_trans (rd_size32 _ _) (rd_size32 _ _))))
  by_cases h3 : k = 3
  · simp only [if_neg h0, if_neg h1, if_pos h3]
    refine ⟨(rd32 s false).1, 0, (rd32 _ _).1, 0, 0, 0, 0, 0, rfl, ⟨rd32_fst _ _, by omega, rd32_fst _ _, by omega⟩, ⟨by omega, by omega, by omega, by omega⟩, fun hb => ?_, ?_⟩
    · obtain ⟨b2, s2⟩ := rd32_fine hb
      obtain ⟨b1, s1⟩ := rd32_fine b2
      simp only [List.length_append, be32_length]
      omega
    · exact Nat.le_trans (rd_size32 _ _) (rd_size32 _ _)
  by_cases h7 : k = 7
  · simp only [if_neg h0, if_neg h1, if_neg h3, if_pos h7]
    refine ⟨(rd32 s false).1, 0, 0, 0, 0, 0, 0, 0, rfl, ⟨rd32_fst _ _, by omega, by omega, by omega⟩, ⟨by omega, by omega, by omega, by omega⟩, fun hb => ?_, rd_size32 _ _⟩
    obtain ⟨b1, s1⟩ := rd32_fine hb
    simp only [be32_length]
    omega
  · simp only [if_neg h0, if_neg h1, if_neg h3, if_neg h7]
    exact ⟨0, 0, 0, 0, 0, 0, 0, 0, rfl, ⟨by omega, by omega, by omega, by omega⟩, ⟨by omega, by omega, by omega, by omega⟩, fun _ => rfl, Nat.le_refl _⟩
theorem reps_facts (s : ByteArray) (b : Bool) : (∀ g ∈ (repsS s b).1, g.1 < 65536 ∧ g.2 < 65536) ∧ (∀ d ∈ (repsS s b).2.1, d < 4294967296) ∧ ((repsS s b).2.2.2 = false → b = false ∧ s.size = 4 + 4 * (repsS s b).1.length + 4 * (repsS s b).2.1.length ∧ (repsS s b).2.2.1 = noB) := by
  unfold repsS
  dsimp only
  split
  · rename_i hs
    refine ⟨fun g hg => ?_, fun d hd => ?_, fun hb => ?_⟩
    · unfold gapsAt at hg
      obtain ⟨i, _, rfl⟩ := List.mem_map.1 hg
      exact ⟨num_lt _ _, num_lt _ _⟩
    · unfold dupsAt at hd
      obtain ⟨i, _, rfl⟩ := List.mem_map.1 hd
      exact num4_lt _ _
    · obtain ⟨b2, s2⟩ := rd16_fine hb
      obtain ⟨b1, s1⟩ := rd16_fine b2
      refine ⟨b1, ?_, rfl⟩
      have e1 : ∀ L n, (gapsAt L n).length = n := fun L n => by simp [gapsAt]
      have e2 : ∀ L p n, (dupsAt L p n).length = n := fun L p n => by simp [dupsAt]
      rw [e1, e2]
      omega
  · exact ⟨by simp, by simp, fun hb => by cases hb⟩
theorem items_fine {s : ByteArray} (h : (parseB s).2.2 = 0) : (buildB (parseB s).1).2 = 0 ∧ (itemsL (parseB s).1).length ≤ s.size := by
  unfold parseB at h ⊢
  split at h
  · exact absurd h (by decide)
  · rename_i hs
    rw [if_neg hs]
    have h1 := parse_right _ s.data.toList (Nat.le_refl _) h
    have h2 := read_cut _ s.data.toList (Nat.le_refl _) h
    have h3 : (rowL (parseL s.data.toList).1).length ≤ 4000 := by
      have := padN_four s.data.toList.length
      have := padN_lt s.data.toList.length
      have h5 := size_list s
      omega
    rw [build_right h1.1 h3, size_list]
    exact ⟨rfl, h2.1⟩
/-- What is read of a value. -/
theorem value_read {k f : Int} {v : ByteArray} (h : (parseV k f v).2 = true) : WfC (parseV k f v).1 ∧ formedB (parseV k f v).1 = true ∧ (buildB (parseV k f v).1.items).2 = 0 ∧ (valueL (parseV k f v).1).length ≤ v.size ∧ (parseV k f v).1.type = k ∧ (parseV k f v).1.flags = f := by
  have hf : formedB (parseV k f v).1 = true := by
    unfold parseV at h ⊢
    simp only [Bool.and_eq_true] at h
    exact h.2
  obtain ⟨a, b, c, d, e, g, hh, i, hr, w1, w2, hsz, hle⟩ := set_facts k f v
  obtain ⟨r1, r2, r3⟩ := reps_facts (setNums (zeroC k f) v false).2.1 (setNums (zeroC k f) v false).2.2
  obtain ⟨l1, l2, l3, l4⟩ := formed_lacks hf
  have hlen : ∀ (ga : List (Nat × Nat)) (du : List Nat) (it : List Item) (te : ByteArray), (numsL ⟨k, f, a, b, c, d, e, g, hh, i, ga, du, it, te⟩).length = (numsL ⟨k, f, a, b, c, d, e, g, hh, i, [], [], [], noB⟩).length := fun _ _ _ _ => rfl
  by_cases h3 : k = 3
  · have hi : hasItems k = false := by rw [h3]; rfl
    have ec : (parseV k f v).1 = ⟨k, f, a, b, c, d, e, g, hh, i, (repsS (setNums (zeroC k f) v false).2.1 (setNums (zeroC k f) v false).2.2).1, (repsS (setNums (zeroC k f) v false).2.1 (setNums (zeroC k f) v false).2.2).2.1, [], (repsS (setNums (zeroC k f) v false).2.1 (setNums (zeroC k f) v false).2.2).2.2.1⟩ := by
      unfold parseV
      dsimp only
      rw [hi, if_pos h3, hr]
      rfl
    have hb : (repsS (setNums (zeroC k f) v false).2.1 (setNums (zeroC k f) v false).2.2).2.2.2 = false := by
      unfold parseV at h
      dsimp only at h
      rw [if_pos h3] at h
      simp only [Bool.and_eq_true, Bool.not_eq_true'] at h
      exact h.1.1
    obtain ⟨b1, s1, n1⟩ := r3 hb
    have hs := hsz b1
    rw [ec] at hf ⊢
    refine ⟨wf_nums _ _ _ _ _ _ _ _ _ _ w1.1 w1.2.1 w1.2.2.1 w1.2.2.2 w2.1 w2.2.1 w2.2.2.1 w2.2.2.2 _ _ _ _ r1 r2, hf, rfl, ?_, rfl, rfl⟩
    unfold valueL
    dsimp only
    rw [if_pos h3, n1]
    simp only [List.length_append, repL, be16_length, gapsL_length, dupsL_length, hlen]
    have e0 : (itemsL []).length = 0 := rfl
    have e1 : noB.data.toList.length = 0 := rfl
    omega
  · cases hi : hasItems k with
    | true =>
      have ec : (parseV k f v).1 = ⟨k, f, a, b, c, d, e, g, hh, i, [], [], (parseB (setNums (zeroC k f) v false).2.1).1, noB⟩ := by
        unfold parseV
        dsimp only
        rw [hi, if_neg h3, hr]
        rfl
      have hb : (setNums (zeroC k f) v false).2.2 = false ∧ (parseB (setNums (zeroC k f) v false).2.1).2.2 = 0 := by
        unfold parseV at h
        dsimp only at h
        rw [if_neg h3, hi] at h
        simp only [Bool.and_eq_true, Bool.not_eq_true', if_true, decide_eq_true_eq] at h
        exact h.1
      have hs := hsz hb.1
      obtain ⟨i1, i2⟩ := items_fine hb.2
      rw [ec] at hf ⊢
      refine ⟨wf_nums _ _ _ _ _ _ _ _ _ _ w1.1 w1.2.1 w1.2.2.1 w1.2.2.2 w2.1 w2.2.1 w2.2.2.1 w2.2.2.2 _ _ _ _ (by simp) (by simp), hf, i1, ?_, rfl, rfl⟩
      unfold valueL
      dsimp only
      rw [if_neg h3]
      simp only [List.length_append, hlen, List.length_nil]
      have e1 : noB.data.toList.length = 0 := rfl
      omega
    | false =>
      have ec : (parseV k f v).1 = ⟨k, f, a, b, c, d, e, g, hh, i, [], [], [], (setNums (zeroC k f) v false).2.1⟩ := by
        unfold parseV
        dsimp only
        rw [hi, if_neg h3, hr]
        rfl
      have hb : (setNums (zeroC k f) v false).2.2 = false := by
        unfold parseV at h
        dsimp only at h
        rw [if_neg h3] at h
        simp only [Bool.and_eq_true, Bool.not_eq_true'] at h
        exact h.1.1
      have hs := hsz hb
      rw [ec] at hf ⊢
      refine ⟨wf_nums _ _ _ _ _ _ _ _ _ _ w1.1 w1.2.1 w1.2.2.1 w1.2.2.2 w2.1 w2.2.1 w2.2.2.1 w2.2.2.2 _ _ _ _ (by simp) (by simp), hf, rfl, ?_, rfl, rfl⟩
      unfold valueL
      dsimp only
      rw [if_neg h3]
      simp only [List.length_append, hlen, List.length_nil]
      have e0 : (itemsL []).length = 0 := rfl
      have h5 := size_list (setNums (zeroC k f) v false).2.1
      omega
theorem parseC_err {s : ByteArray} (h : (parseC s).2.2 ≠ 0) : ∃ e, parseC s = (zeroC 0 0, 0, e) := by
  unfold parseC at h ⊢
  repeat' split
  all_goals first | exact ⟨_, rfl⟩ | skip
  rename_i h1 h2 h3 h4 h5
  rw [if_neg h1, if_neg h2, if_neg h3, if_neg h4, if_pos h5] at h
  exact absurd rfl h
theorem parseC_lt (s : ByteArray) : (parseC s).2.2 < 5 := by
  unfold parseC
  repeat' split
  all_goals (dsimp only; omega)
theorem parseC_parts {s : ByteArray} (h : (parseC s).2.2 = 0) : 4 ≤ s.size ∧ lenC s ≤ s.size ∧ 4 ≤ lenC s ∧ lenC s ≤ 1400 ∧ (parseV (byteAt s.data.toList 0) (byteAt s.data.toList 1) (valC s)).2 = true ∧ parseC s = ((parseV (byteAt s.data.toList 0) (byteAt s.data.toList 1) (valC s)).1, sizeC s, 0) := by
  unfold parseC at h ⊢
  repeat' split at h
  all_goals first | exact absurd h (by decide) | skip
  rename_i h1 h2 h3 h4 h5
  rw [if_neg h1, if_neg h2, if_neg h3, if_neg h4, if_pos h5]
  exact ⟨by omega, by omega, by omega, by omega, h5.1, rfl⟩
/-- What is read is right; built, it is read again. -/
theorem chunk_again {s : ByteArray} (h : (parseC s).2.2 = 0) : WfC (parseC s).1 ∧ (buildC (parseC s).1).2 = 0 ∧ 4 ≤ lenC s ∧ lenC s ≤ s.size ∧ lenC s ≤ 1400 ∧ lenC s ≤ (parseC s).2.1 ∧ (parseC s).2.1 ≤ s.size ∧ (parseC s).2.1 < lenC s + 4 := by
  obtain ⟨h1, h2, h3, h4, h5, h6⟩ := parseC_parts h
  obtain ⟨v1, v2, v3, v4, _, _⟩ := value_read h5
  have hv : (valC s).size = lenC s - 4 := by
    unfold valC
    have := size_list s
    rw [toB_size, List.length_take, List.length_drop]
    omega
  rw [h6]
  dsimp only
  have hp := padN_lt (lenC s)
  refine ⟨v1, ?_, h3, h2, h4, ?_, ?_, ?_⟩
  · rw [buildC_of v3 v2 (by omega)]
  · unfold sizeC; omega
  · unfold sizeC; omega
  · unfold sizeC; omega
theorem chunk_short {s : ByteArray} (h2 : lenC s ≤ s.size) (h3 : 4 ≤ lenC s) : (parseC ⟨(s.data.toList.take (lenC s - 1)).toArray⟩).2.2 = 3 := by
  have hs := size_list s
  generalize hL : s.data.toList = L at *
  have hlen : lenC s = num L 2 := by unfold lenC; rw [hL]
  rw [hlen] at h2 h3 ⊢
  have hsz : (⟨(L.take (num L 2 - 1)).toArray⟩ : ByteArray).size = num L 2 - 1 := by
    rw [toB_size, List.length_take]
    omega
  unfold parseC
  rw [hsz]
  by_cases h4 : num L 2 - 1 < 4
  · rw [if_pos h4]
  · rw [if_neg h4]
    have e : lenC ⟨(L.take (num L 2 - 1)).toArray⟩ = num L 2 := by
      unfold lenC
      rw [toB_list]
      have : L = L.take (num L 2 - 1) ++ L.drop (num L 2 - 1) := (List.take_append_drop _ _).symm
      conv => rhs; rw [this]
      rw [num_left _ (by rw [List.length_take]; omega)]
    rw [e, if_pos (by omega)]
end Go.Proofs.Ytfdnphkdpmlbnaa
end
section
namespace Go.Proofs.Ytfdnphkdpmlbnaa
set_option linter.unusedVariables false

theorem at_byte (s : ByteArray) (i : Nat) (h : i < s.size) : (s[i]'h).toNat = byteAt s.data.toList i := by
  have h' : i < s.data.toList.length := by rw [← size_list]; exact h
  rw [byteAt_get h']
  rfl
/-- What the first four bytes say. -/
theorem built_heads {c : Ck} (h : (buildC c).2 = 0) : ∃ n x y p : Nat, 4 ≤ n ∧ n ≤ 1400 ∧ p ≤ 3 ∧ (buildC c).1.size = n + p ∧ x < 256 ∧ y < 256 ∧ x * 256 + y = n ∧ (0 ≤ c.type ∧ c.type ≤ 255) ∧ (0 ≤ c.flags ∧ c.flags ≤ 255) ∧
    (byteAt (buildC c).1.data.toList 0 : Int) = c.type ∧ (byteAt (buildC c).1.data.toList 1 : Int) = c.flags ∧ byteAt (buildC c).1.data.toList 2 = x ∧ byteAt (buildC c).1.data.toList 3 = y := by
  obtain ⟨h1, h2, h3, h4⟩ := buildC_ok h
  have hp := formed_parts h2
  have hf := flags_le c.type
  have ht := hp.1
  have hg := hp.2.1
  have hl : (buildC c).1.data.toList = bytesC c := by rw [h4]
  have hs : (buildC c).1.size = (bytesC c).length := by rw [size_list, hl]
  rw [hl, hs, bytesC_length]
  have e2 : num (bytesC c) 2 = 4 + (valueL c).length := by
    unfold bytesC
    rw [List.append_assoc, List.append_assoc, show (2 : Nat) = [UInt8.ofNat c.type.toNat, UInt8.ofNat c.flags.toNat].length + 0 from rfl, num_right, num_left _ (by rw [be16_length]; omega), num_be16 (by omega)]
  refine ⟨4 + (valueL c).length, byteAt (bytesC c) 2, byteAt (bytesC c) 3, padN (4 + (valueL c).length), by omega, h3, by have := padN_lt (4 + (valueL c).length); omega, rfl, byteAt_lt _ _, byteAt_lt _ _, e2, ht, ⟨hg.1, by omega⟩, ?_, ?_, rfl, rfl⟩
  · exact type_byte ht
  · exact type_byte ⟨hg.1, by omega⟩
theorem data_other {c : Ck} (h : (buildC c).2 = 0) (h0 : c.type = 0) : (0 ≤ c.flags ∧ c.flags ≤ 7) ∧ (buildC { c with flags := 7 - c.flags }).2 = 0 ∧
    (buildC { c with flags := 7 - c.flags }).1.extract 0 1 = (buildC c).1.extract 0 1 ∧ (buildC { c with flags := 7 - c.flags }).1.extract 2 (buildC { c with flags := 7 - c.flags }).1.size = (buildC c).1.extract 2 (buildC c).1.size := by
  obtain ⟨h1, h2, h3, h4⟩ := buildC_ok h
  have hp := formed_parts h2
  have hg := hp.2.1
  have hf : (formOf c.type).1 = 7 := by rw [h0]; rfl
  rw [hf] at hg
  have hv : valueL { c with flags := 7 - c.flags } = valueL c := rfl
  have hF : formedB { c with flags := 7 - c.flags } = true := by
    have ho : ownB { c with flags := 7 - c.flags } = ownB c := by
      unfold ownB eraseC nothingB
      simp only [h0, if_true]
    have hm : meantB { c with flags := 7 - c.flags } = meantB c := rfl
    unfold formedB at h2 ⊢
    rw [ho, hm]
    simp only [Bool.and_eq_true] at h2 ⊢
    refine ⟨⟨⟨⟨⟨⟨⟨h2.1.1.1.1.1.1.1, ?_⟩, h2.1.1.1.1.1.2⟩, h2.1.1.1.1.2⟩, h2.1.1.1.2⟩, h2.1.1.2⟩, h2.1.2⟩, h2.2⟩
    rw [within_true]
    show 0 ≤ 7 - c.flags ∧ 7 - c.flags ≤ (formOf c.type).1
    rw [hf]
    omega
  have hb := buildC_of (c := { c with flags := 7 - c.flags }) h1 hF (by rw [hv]; exact h3)
  refine ⟨⟨hg.1, hg.2⟩, by rw [hb], ?_, ?_⟩
  · rw [hb, h4]
    apply bytes_ext
    simp [bytesC]
  · rw [hb, h4]
    apply bytes_ext
    simp [bytesC, hv, ByteArray.size]
end Go.Proofs.Ytfdnphkdpmlbnaa
end
