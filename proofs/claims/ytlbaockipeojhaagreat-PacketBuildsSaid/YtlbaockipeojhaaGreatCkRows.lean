/-
  Rows of chunks, as they come in and as a statement keeps them: facts of memory and plain facts.
-/
import Derived.Test.YtlbaockipeojhaaGreatCkFact
import Derived.Test.YtlbaockipeojhaaGreatCkArgs
namespace Go.Proofs.YtlbaockipeojhaaGreat
open Go.ChangeShapes Go.WideShapes Go.ChangeAt Go.RowKit Go.Deep
set_option linter.unusedVariables false
set_option maxRecDepth 100000

/-- A chunk as a value: what it is, and the slices of its three rows. -/
structure Cv where
  c : Ck
  g : Value
  d : Value
  it : Value
abbrev Cv.cells (x : Cv) : Array Value := cellsC x.c x.g x.d x.it
instance : Inhabited Cv := ⟨⟨zeroC 0 0, .bool false, .bool false, .bool false⟩⟩
theorem Cv.size (x : Cv) : x.cells.toList.length = 14 := rfl
def flatK (l : List Cv) : List Value := l.flatMap fun x => x.cells.toList
theorem flatK_cons (x : Cv) (l : List Cv) : flatK (x :: l) = x.cells.toList ++ flatK l := by simp [flatK]
theorem flatK_length (l : List Cv) : (flatK l).length = l.length * 14 := by
  induction l with
  | nil => rfl
  | cons p ps ih => rw [flatK_cons, List.length_append, ih, Cv.size, List.length_cons]; omega
theorem flatK_append (l m : List Cv) : flatK (l ++ m) = flatK l ++ flatK m := by simp [flatK]
theorem flatK_one (x : Cv) : flatK [x] = x.cells.toList := by simp [flatK]
theorem flatK_at (l : List Cv) (i : Nat) (h : i < l.length) (j : Nat) (hj : j < 14) : (flatK l)[i * 14 + j]? = l[i].cells[j]? := by
  induction l generalizing i with
  | nil => simp at h
  | cons p ps ih =>
    have hs := Cv.size p
    rw [flatK_cons]
    cases i with
    | zero =>
      rw [List.getElem?_append_left (by omega)]
      simp
    | succ i =>
      rw [List.getElem?_append_right (by omega), hs, show (i + 1) * 14 + j - 14 = i * 14 + j by omega, ih i (by simpa using h)]
      rfl
/-- The slice v reads as these chunks; nil and empty ones let in. -/
def RowK (w : World) (v : Value) (l : List Cv) : Prop :=
  ∃ (A : Option Addr) (cap : Nat), v = .slice A l.length cap ∧ l.length ≤ cap ∧ cap ≤ maxLen ∧ (0 < l.length → ∃ b off, A = some ⟨b, off, none⟩ ∧ b < w.heap.size ∧ ∀ j (h : j < l.length), w.rangeAt b (off + j * 14) l[j].cells.toList)
theorem rangeAt_below {w w' : World} {B b o : Nat} {cs : List Value} (h : w.rangeAt b o cs) (hlt : b < B) (hb : Below B w w') : w'.rangeAt b o cs := fun j v hj => (hb.cell (p := ⟨b, o + j, none⟩) hlt).trans (h j v hj)
theorem RowK.below {w w' : World} {v : Value} {l : List Cv} (h : RowK w v l) (hb : Below w.heap.size w w') : RowK w' v l := by
  obtain ⟨A, cap, rfl, hc, hm, h⟩ := h
  refine ⟨A, cap, rfl, hc, hm, fun hl => ?_⟩
  obtain ⟨b, off, rfl, hlt, hcell⟩ := h hl
  exact ⟨b, off, rfl, Nat.lt_of_lt_of_le hlt hb.size, fun j hj => rangeAt_below (hcell j hj) hlt hb⟩
theorem RowK.nil (w : World) : RowK w (.slice none 0 0) [] := ⟨none, 0, rfl, Nat.le_refl _, Nat.zero_le _, fun h => absurd h (by simp)⟩
theorem rowK_of_own {w : World} {base n : Nat} {e : TypeId} {v : Value} {l : List Cv} (h : OwnG w base e 14 v n (flatK l)) : RowK w v l := by
  have hl : l.length = n := by have := h.1; rw [flatK_length] at this; omega
  subst hl
  rcases h.2 with ⟨rfl, h0⟩ | ⟨g, cap, cur, fz, rfl, hb, hh, h1, h2, _⟩
  · exact ⟨none, 0, by rw [h0], by omega, Nat.zero_le _, fun hp => by omega⟩
  · refine ⟨_, cap, rfl, h1, h2, fun _ => ⟨g, 0, rfl, (Array.getElem?_eq_some_iff.1 hh).1, fun j hj i u hu => ?_⟩⟩
    have hi : i < 14 := by have := (List.getElem?_eq_some_iff.1 hu).1; rw [Cv.size] at this; exact this
    rw [Nat.zero_add]
    refine h.cells _ _ ?_
    rw [flatK_at l j hj i hi]
    simpa using hu
/-- What is known of each chunk of a row. -/
def AllC (w : World) (l : List Cv) : Prop := ∀ x ∈ l, InC w x.c x.g x.d x.it
theorem AllC.below {w w' : World} {l : List Cv} (h : AllC w l) (hb : Below w.heap.size w w') : AllC w' l := fun x hx => (h x hx).below hb
section
variable {H : Type} {enc : TypeId × Value → H} {W : World}
theorem chunks_in {v : Value} {d : DataW H} {ps : List MemPlace} {base : Nat} (hval : Value.okWide Tryz.prog W .any base 24 v) (h : DataW.Trod enc Tryz.prog W 0 (fun _ => true) true 24 v d ps) :
    ∃ l : List Cv, RowK W v l ∧ l.length ≤ maxLen ∧ AllC W l := by
  obtain ⟨a0, len, cap, rfl⟩ := okWide_slice Tryz.underlying24 hval
  obtain ⟨fuel, hf⟩ := h
  rcases open_slice Tryz.underlying24 hf with ⟨hcs, _⟩ | ⟨a, len', cap', m, n, D, P, hcs, _, hl, hm, hmm, _, hi⟩
  · simp [Value.cells] at hcs
    obtain ⟨rfl, rfl, rfl⟩ := hcs
    exact ⟨[], RowK.nil _, by simp [maxLen], fun x hx => by simp at hx⟩
  · simp [Value.cells] at hcs
    obtain ⟨rfl, rfl, rfl⟩ := hcs
    simp only [if_true] at hmm
    have each : ∀ i, i < len → ∃ q : Cv, (∀ j u, q.cells.toList[j]? = some u → W.cell? (a.add (i * 14 + j)) = some u) ∧ InC W q.c q.g q.d q.it := by
      intro i hlt
      obtain ⟨cs', h1, h2⟩ := hi i (by omega)
      rw [cellsCk] at h1
      obtain ⟨_, hlen, hcell⟩ := World.cells?_some h1
      obtain ⟨c, g, d, it, e, hin⟩ := chunk_of h2
      refine ⟨⟨c, g, d, it⟩, fun j u hu => ?_, hin⟩
      have hj : j < 14 := by have := (List.getElem?_eq_some_iff.1 hu).1; rw [Cv.size] at this; exact this
      have e0 := hcell j hj
      rw [add_add] at e0
      rw [e0, e]
      exact hu
    obtain ⟨q, hq⟩ := choose_lt each
    have hlen : ((List.range len).map q).length = len := by simp
    refine ⟨(List.range len).map q, ⟨some a, cap, by rw [hlen], by omega, hm, fun hp => ?_⟩, by rw [hlen]; omega, fun x hx => ?_⟩
    · have h0 := (hq 0 (by omega)).1 0 _ rfl
      have hspot : a.spot = none := by simpa [Addr.add] using World.cell?_spot h0
      obtain ⟨b, off, spot⟩ := a
      simp only at hspot
      subst hspot
      have hb : b < W.heap.size := World.block_lt_of_cell? _ _ (by rw [addr_plain] at h0; exact h0)
      refine ⟨b, off, rfl, hb, fun j hj i u hu => ?_⟩
      rw [List.getElem_map, List.getElem_range] at hu
      have := (hq j (by omega)).1 i u hu
      rw [addr_plain] at this
      rw [← this, Nat.add_assoc]
    · obtain ⟨i, hi', rfl⟩ := List.mem_map.1 hx
      exact (hq i (by simpa using hi')).2
end

/-! ### What is built of some -/
def fineV (x : Cv) : Bool := decide ((buildC x.c).2 = 0)
def keptL (l : List Cv) (k : Nat) : List Cv := (l.take k).filter fineV
def FineL (l : List Cv) : Prop := ∀ x ∈ l, (buildC x.c).2 = 0
theorem kept_yes (l : List Cv) (k : Nat) (h : k < l.length) (hb : (buildC l[k].c).2 = 0) : keptL l (k + 1) = keptL l k ++ [l[k]] := by
  unfold keptL
  rw [List.take_succ_eq_append_getElem h, List.filter_append, List.filter_cons_of_pos (by simp [fineV, hb]), List.filter_nil]
theorem kept_no (l : List Cv) (k : Nat) (h : k < l.length) (hb : (buildC l[k].c).2 ≠ 0) : keptL l (k + 1) = keptL l k := by
  unfold keptL
  rw [List.take_succ_eq_append_getElem h, List.filter_append, List.filter_cons_of_neg (by simp [fineV, hb]), List.filter_nil, List.append_nil]
theorem kept_le (l : List Cv) (k : Nat) : (keptL l k).length ≤ l.length := by
  unfold keptL
  have h1 := List.length_filter_le fineV (l.take k)
  rw [List.length_take] at h1
  omega
theorem kept_mem {l : List Cv} {k : Nat} {x : Cv} (h : x ∈ keptL l k) : x ∈ l ∧ (buildC x.c).2 = 0 := by
  obtain ⟨h1, h2⟩ := List.mem_filter.1 h
  exact ⟨List.mem_of_mem_take h1, by simpa [fineV] using h2⟩
theorem kept_fine (l : List Cv) (k : Nat) : FineL (keptL l k) := fun x hx => (kept_mem hx).2
theorem kept_in {w : World} {l : List Cv} (h : AllC w l) (k : Nat) : AllC w (keptL l k) := fun x hx => h x (kept_mem hx).1
/-- The bytes of some, one behind the other. -/
def joinB : List Cv → ByteArray
  | [] => noB
  | x :: l => (buildC x.c).1 ++ joinB l
theorem append_three (a b c : ByteArray) : a ++ b ++ c = a ++ (b ++ c) := by
  apply bytes_ext
  simp
theorem noB_append (s : ByteArray) : noB ++ s = s := by
  apply bytes_ext
  simp [noB]
theorem joinB_snoc (l : List Cv) (x : Cv) : joinB (l ++ [x]) = joinB l ++ (buildC x.c).1 := by
  induction l with
  | nil => simp only [List.nil_append, joinB]; rw [append_noB, noB_append]
  | cons y l ih => simp only [List.cons_append, joinB]; rw [ih, append_three]
theorem joinB_size {l : List Cv} (h : FineL l) : (joinB l).size ≤ l.length * 1400 := by
  induction l with
  | nil => decide
  | cons x l ih =>
    have h1 := (built_size (h x (by simp))).2.1
    have h2 := ih fun y hy => h y (by simp [hy])
    simp only [joinB, ByteArray.size_append, List.length_cons]
    omega
theorem joinB_drop (l : List Cv) (k : Nat) (h : k < l.length) : joinB (l.drop k) = (buildC l[k].c).1 ++ joinB (l.drop (k + 1)) := by
  rw [List.drop_eq_getElem_cons h]
  rfl
theorem behind_first (a t : ByteArray) : (a ++ t).extract a.size (a ++ t).size = t := by
  apply bytes_ext
  rw [cut_list, app_list, ByteArray.size_append, size_list a, size_list t, List.drop_left, show a.data.toList.length + t.data.toList.length - a.data.toList.length = t.data.toList.length by omega, List.take_length]
theorem ckInfo : (Tryz.prog.info? 52).map (fun i => (i.zero, i.size, i.bytes)) = some (some (.agg #[.int .i64 0, .int .i64 0, .int .u32 0, .int .u32 0, .int .u32 0, .int .u32 0, .int .u16 0, .int .u16 0, .int .u16 0, .int .u16 0, .slice none 0 0, .slice none 0 0, .slice none 0 0, .string ⟨#[]⟩]), 14, 128) := by kernel_rfl
theorem all_list {cs : Array Value} (h : cs.all (·.oneCell') = true) : ∀ u ∈ cs.toList, u.oneCell' = true := by
  intro u hu
  exact (Array.all_eq_true_iff_forall_mem.1 h) u (by simpa using hu)

/-! ### Two chunks to compare: one in a block of its own, one in a row -/
structure PairS (base : World) (B : Nat) (a : Cv) (b o : Nat) (c : Cv) (W : World) : Prop where
  first : W.rangeAt B 0 a.cells.toList
  second : W.rangeAt b o c.cells.toList
  pa : Parts W a.c a.g a.d a.it
  pb : Parts W c.c c.g c.d c.it
  lt1 : B < W.heap.size
  lt2 : b < W.heap.size
  below : Below base.heap.size base W
section
variable {base W W' : World} {a c : Cv} {B b o : Nat}
theorem PairS.later (h : PairS base B a b o c W) (hb : Below W.heap.size W W') : PairS base B a b o c W' :=
  ⟨rangeAt_below h.first h.lt1 hb, rangeAt_below h.second h.lt2 hb, h.pa.below hb, h.pb.below hb, Nat.lt_of_lt_of_le h.lt1 hb.size, Nat.lt_of_lt_of_le h.lt2 hb.size, h.below.trans (hb.mono h.below.size)⟩
theorem pairS_new {w3 : World} (T : TypeId) (ha : Parts w3 a.c a.g a.d a.it) (hc : Parts w3 c.c c.g c.d c.it) (hr : w3.rangeAt b o c.cells.toList) (hb : b < w3.heap.size) (h : Below base.heap.size base w3) : PairS base w3.heap.size a b o c (w3.alloc (.cells a.cells T)) := by
  have hB : Below w3.heap.size w3 (w3.alloc (.cells a.cells T)) := (Below.refl _ _).alloc (Nat.le_refl _) _
  refine ⟨fun j v hj => ?_, rangeAt_below hr hb hB, ha.below hB, hc.below hB, by rw [World.size_alloc]; omega, by rw [World.size_alloc]; omega, h.trans (hB.mono h.size)⟩
  rw [Nat.zero_add, cell_in (heap_alloc_new _ _)]
  simpa using hj
theorem PairS.drew (h : PairS base B a b o c W) : PairS base B a b o c W.drew := h.later (Below.refl _ _).drew
end
end Go.Proofs.YtlbaockipeojhaaGreat
