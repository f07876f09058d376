/-
  What is bundled: a contract.
-/
import Derived.Test.YtlbaockipeojhaaGreatFill
import Derived.BigRegion
namespace Go.Proofs.YtlbaockipeojhaaGreat
open Go.RowKit
set_option linter.unusedVariables false
set_option linter.unusedSimpArgs false
set_option maxRecDepth 100000

/-- A packet as a value: its chunks, and the slice of these. -/
structure Pv where
  v : Value
  l : List Cv
def flatP (f t g : Nat) (l : List Pv) : List Value := l.flatMap fun x => [.int .u16 (f : Int), .int .u16 (t : Int), .int .u32 (g : Int), x.v]
theorem flatP_cons (f t g : Nat) (x : Pv) (l : List Pv) : flatP f t g (x :: l) = [.int .u16 (f : Int), .int .u16 (t : Int), .int .u32 (g : Int), x.v] ++ flatP f t g l := by simp [flatP]
theorem flatP_length (f t g : Nat) (l : List Pv) : (flatP f t g l).length = l.length * 4 := by
  induction l with
  | nil => rfl
  | cons p ps ih => rw [flatP_cons, List.length_append, ih, List.length_cons]; simp only [List.length_cons, List.length_nil]; omega
theorem flatP_snoc (f t g : Nat) (l : List Pv) (x : Pv) : flatP f t g (l ++ [x]) = flatP f t g l ++ [.int .u16 (f : Int), .int .u16 (t : Int), .int .u32 (g : Int), x.v] := by simp [flatP]
theorem flatP_at (f t g : Nat) (l : List Pv) (i : Nat) (h : i < l.length) (j : Nat) (hj : j < 4) : (flatP f t g l)[i * 4 + j]? = (cellsP f t g l[i].v)[j]? := by
  induction l generalizing i with
  | nil => simp at h
  | cons p ps ih =>
    rw [flatP_cons]
    cases i with
    | zero =>
      rw [List.getElem?_append_left (by simp only [List.length_cons, List.length_nil]; omega)]
      simp
    | succ i =>
      rw [List.getElem?_append_right (by simp only [List.length_cons, List.length_nil]; omega)]
      simp only [List.length_cons, List.length_nil]
      rw [show (i + 1) * 4 + j - (0 + 1 + 1 + 1 + 1) = i * 4 + j by omega, ih i (by simpa using h)]
      rfl
/-- The slice v reads as these packets. -/
structure RowP (w : World) (f t g : Nat) (v : Value) (l : List Pv) : Prop where
  row : ∃ (A : Option Addr) (cap : Nat), v = .slice A l.length cap ∧ l.length ≤ cap ∧ cap ≤ maxLen ∧ (0 < l.length → ∃ b, A = some ⟨b, 0, none⟩ ∧ b < w.heap.size ∧ ∀ j (h : j < l.length), w.rangeAt b (j * 4) (cellsP f t g l[j].v).toList)
  parts : ∀ x ∈ l, Rk w x.v x.l
theorem RowP.below {w w' : World} {f t g : Nat} {v : Value} {l : List Pv} (h : RowP w f t g v l) (hb : Below w.heap.size w w') : RowP w' f t g v l := by
  obtain ⟨⟨A, cap, rfl, hc, hm, h⟩, hp⟩ := h
  refine ⟨⟨A, cap, rfl, hc, hm, fun hl => ?_⟩, fun x hx => (hp x hx).below hb⟩
  obtain ⟨b, rfl, hlt, hcell⟩ := h hl
  exact ⟨b, rfl, Nat.lt_of_lt_of_le hlt hb.size, fun j hj => rangeAt_below (hcell j hj) hlt hb⟩
theorem rowP_of_own {w : World} {base n f t g : Nat} {e : TypeId} {v : Value} {l : List Pv} (h : OwnG w base e 4 v n (flatP f t g l)) (hp : ∀ x ∈ l, Rk w x.v x.l) : RowP w f t g v l := by
  have hl : l.length = n := by have := h.1; rw [flatP_length] at this; omega
  subst hl
  refine ⟨?_, hp⟩
  rcases h.2 with ⟨rfl, h0⟩ | ⟨g', cap, cur, fz, rfl, hb, hh, h1, h2, _⟩
  · exact ⟨none, 0, by rw [h0], by omega, Nat.zero_le _, fun hp => by omega⟩
  · refine ⟨_, cap, rfl, h1, h2, fun _ => ⟨g', rfl, (Array.getElem?_eq_some_iff.1 hh).1, fun j hj i u hu => ?_⟩⟩
    have hi : i < 4 := (List.getElem?_eq_some_iff.1 hu).1
    refine h.cells _ _ ?_
    rw [flatP_at f t g l j hj i hi]
    simpa using hu
theorem pk_ones (f t g : Nat) (A : Option Addr) (n k : Nat) : ∀ u ∈ [Value.int .u16 (f : Int), .int .u16 (t : Int), .int .u32 (g : Int), .slice A n k], u.oneCell' = true := by
  intro u hu
  simp only [List.mem_cons, List.not_mem_nil, or_false] at hu
  rcases hu with rfl | rfl | rfl | rfl <;> rfl
theorem infoPk8 : (Tryz.prog.info? 26).map (fun i => (i.zero, i.size, i.bytes)) = some (some (.agg #[.int .u16 0, .int .u16 0, .int .u32 0, .slice none 0 0]), 4, 32) := by kernel_rfl
/-- The empty packet lies where it lay; the packets that there are. -/
structure BuS (n0 f t g : Nat) (w : World) (ps : List Pv) (U : Value) (W : World) : Prop where
  own : W.heap[n0]? = some (.cells (cellsP f t g (.slice none 0 0)) 26 (0, 0))
  row : OwnG W (n0 + 1) 26 4 U ps.length (flatP f t g ps)
  parts : ∀ x ∈ ps, RkF (n0 + 1) W x.v x.l
  below : Below n0 w W
theorem BuS.since {n0 f t g : Nat} {w W : World} {ps : List Pv} {U : Value} (h : BuS n0 f t g w ps U W) : n0 + 1 ≤ W.heap.size := by have := (Array.getElem?_eq_some_iff.1 h.own).1; omega
theorem BuS.later {n0 f t g : Nat} {w W W' : World} {ps : List Pv} {U : Value} (h : BuS n0 f t g w ps U W) (hb : Below W.heap.size W W') : BuS n0 f t g w ps U W' := by
  have hs := h.since
  exact ⟨(hb.block _ (by omega)).trans h.own, h.row.later hb, fun x hx => (h.parts x hx).later hb, h.below.trans (hb.mono (by omega))⟩
theorem BuS.e {n0 f t g : Nat} {w W : World} {ps : List Pv} {U : Value} (h : BuS n0 f t g w ps U W) : W.cell? ⟨n0, 0, none⟩ = some (.int .u16 (f : Int)) ∧ W.cell? ⟨n0, 1, none⟩ = some (.int .u16 (t : Int)) ∧ W.cell? ⟨n0, 2, none⟩ = some (.int .u32 (g : Int)) ∧ W.cell? ⟨n0, 3, none⟩ = some (.slice none 0 0) := by
  refine ⟨?_, ?_, ?_, ?_⟩ <;> (rw [cell_in h.own]; rfl)
theorem BuS.put {n0 f t g : Nat} {w W W6 W7 : World} {ps : List Pv} {U v7 : Value} {x : Pv} (h : BuS n0 f t g w ps U W) (hb : Below W.heap.size W W6) (hp : RkF (n0 + 1) W6 x.v x.l)
    (ho : OwnG W7 (n0 + 1) 26 4 v7 (ps.length + 1) (flatP f t g ps ++ [.int .u16 (f : Int), .int .u16 (t : Int), .int .u32 (g : Int), x.v])) (hg : W6.grownBy W7 U.ownBlock) : BuS n0 f t g w (ps ++ [x]) v7 W7 := by
  have h6 := h.later hb
  have hs := h6.since
  have hlt : ∀ k, U.ownBlock = some k → n0 + 1 ≤ k := fun k hk => (h6.row.lt k hk).1
  have hkk : ∀ j cs e fz, n0 + 1 ≤ j → W6.heap[j]? = some (.cells cs e fz) → e ≠ 26 → W7.heap[j]? = W6.heap[j]? := fun j cs e fz hj hc he => by
    refine hg.block j (Array.getElem?_eq_some_iff.1 hc).1 fun e' => ?_
    rcases h6.row.2 with ⟨hv, _⟩ | ⟨g', cap, cur, fz', hv, _, hh, _⟩
    · rw [hv] at e'; cases e'
    · rw [hv] at e'
      cases e'
      rw [hh] at hc
      cases hc
      exact he rfl
  refine ⟨?_, ?_, ?_, ?_⟩
  · rw [hg.block n0 (by omega) (fun e => by have := hlt n0 e.symm; omega)]
    exact h6.own
  · rw [List.length_append, flatP_snoc]
    exact ho
  · intro y hy
    rcases List.mem_append.1 hy with hy | hy
    · exact (h6.parts y hy).keep hkk
    · obtain rfl := List.mem_singleton.1 hy
      exact hp.keep hkk
  · exact h6.below.grown hg (by omega) fun k hk => by have := hlt k hk; omega
theorem ckV_drop (l : List Cv) (k : Nat) : (ckV l).drop k = ckV (l.drop k) := by simp [ckV, List.map_drop]
theorem ckV_length (l : List Cv) : (ckV l).length = l.length := by simp [ckV]
def lenOf8 : Value → Nat
  | .slice _ n _ => n
  | _ => 0
def ckP (ps : List Pv) : List (List Ck) := ps.map fun x => ckV x.l
/-- A row from a place on. -/
theorem Rk.drop {w : World} {b off n cap : Nat} {l : List Cv} (h : Rk w (.slice (some ⟨b, off, none⟩) n cap) l) {k : Nat} (hk : k ≤ l.length) (A : Option Addr) (hA : k < cap → A = some ⟨b, off + k * 14, none⟩) : Rk w (.slice A (n - k) (cap - k)) (l.drop k) := by
  refine ⟨?_, fun x hx => h.parts x (List.mem_of_mem_drop hx)⟩
  obtain ⟨A', cap', hv, hc, hm, hcells⟩ := h.row
  cases hv
  have e : (l.drop k).length = l.length - k := by rw [List.length_drop]
  refine ⟨A, cap - k, by rw [e], by omega, by omega, fun hp => ?_⟩
  obtain ⟨b', off', hA', hb, hr⟩ := hcells (by omega)
  cases hA'
  refine ⟨b, off + k * 14, hA (by omega), hb, fun j hj => ?_⟩
  have := hr (k + j) (by omega)
  rw [List.getElem_drop]
  rw [Nat.add_mul] at this
  rw [Nat.add_assoc]
  exact this
set_option maxHeartbeats 16000000 in
theorem bundle_any (f t g : Nat) (l : List Cv) (hl : l.length ≤ 100000) (V : Value) (m : Int) (hm1 : -9223372036854775808 ≤ m) (hm2 : m ≤ 9223372036854775807) (w : World) (h : Rk w V l) (hf : ∀ x ∈ l, FitC x.c) :
    Calls Tryz.prog 17 #[.int .u16 (f : Int), .int .u16 (t : Int), .int .u32 (g : Int), V, .int .i64 m] w fun e w' => ∃ V' ps, e = .returned V' ∧ RowP w' f t g V' ps ∧ ckP ps = bundleP f t g m (ckV l) ∧ Below w.heap.size w w' := by
  obtain ⟨hmo1, hmo2⟩ := mostI_le m
  have HMO := Lib.hid (show mostI m = if m < 100 then 100 else if 1500 < m then 1500 else m from rfl)
  unfold bundleP
  rw [ckV_length]
  generalize hR : bundleF f t g (mostI m) l.length [] (ckV l) = R
  have HFT := Lib.hid hf
  obtain ⟨i0, hi0, hz0, hz1, hz2⟩ := info_parts infoPk8
  have HI := Lib.hid hi0
  have HZ0 := Lib.hid hz0
  have HZ1 := Lib.hid hz1
  have HZ2 := Lib.hid hz2
  clear hi0 hz0 hz1 hz2
  obtain ⟨A0, cap0, rfl, hcap, hmax, -⟩ := h.slice
  have HK := Lib.hid h
  have HPS := Lib.hid pkSize
  have HB0 := Lib.hid ((Below.refl w.heap.size w).alloc (Nat.le_refl _) (.cells (cellsP f t g (.slice none 0 0)) 26))
  have HX0 := Lib.hid (heap_alloc_new w (.cells (cellsP f t g (.slice none 0 0)) 26))
  clear h hf
  dsimp only [cellsP] at *
  go_enter Tryz.func17, Tryz.ntmps17
  go_wp2_with fail
  rw [show min (max m 100) 1500 = mostI m from by rw [HMO.out]; split <;> (try split) <;> omega]
  generalize mostI m = mo at *
  have HS := Lib.hid (show BuS w.heap.size f t g w [] (.slice none 0 0) (w.alloc (.cells #[.int .u16 (f : Int), .int .u16 (t : Int), .int .u32 (g : Int), .slice none 0 0] 26)) from ⟨HX0.out, OwnG.nil _ _ _ _, by simp, HB0.out⟩)
  generalize (w.alloc (.cells #[.int .u16 (f : Int), .int .u16 (t : Int), .int .u32 (g : Int), .slice none 0 0] 26)) = w0 at *
  go_loopw [3, 12] (fun v u wr => ∃ (n : Nat) (l' : List Cv) (ps : List Pv) (A : Option Addr) (c : Nat), v = .slice A l'.length c ∧ l'.length ≤ n ∧ ps.length + l'.length ≤ l.length ∧ Hid (Rk w v l' ∧ (∀ x ∈ l', x ∈ l) ∧ BuS w.heap.size f t g w ps u wr ∧ bundleF f t g mo n (ckP ps) (ckV l') = R))
    (fun v _ _ => lenOf8 v)
  case atStart => exact ⟨l.length, l, [], _, _, rfl, Nat.le_refl _, by simp, Lib.hid ⟨HK.out, fun x hx => hx, HS.out, hR⟩⟩
  case round =>
    obtain ⟨n, l', ps, A, c, rfl, hn, hps, HQ⟩ := hrel
    obtain ⟨hrk, hmem, hs, hrr⟩ := HQ.out
    obtain ⟨UA, uk, rfl, -⟩ := hs.row.slice
    by_cases h0 : l'.length = 0
    · obtain rfl : l' = [] := List.eq_nil_of_length_eq_zero h0
      have HE := Lib.hid hs
      have HRR := Lib.hid ((bundleF_end f t g mo n (ckP ps)).symm.trans hrr)
      clear hrk hmem hs hrr HQ HFT HK hn hps h0
      go_wp2_with fail
      go_ret
      exact ⟨_, ps, rfl, rowP_of_own HE.out.row fun x hx => (HE.out.parts x hx).now, HRR.out, HE.out.below⟩
    · have hlen : (ckV l').length = l'.length := ckV_length l'
      obtain ⟨n', rfl, he, hle⟩ := bundleF_go (f := f) (t := t) (g := g) (most := mo) (n := n) (ckP ps) (l := ckV l') (by omega) (by omega)
      have hfine := (fill_fine (f := f) (t := t) (g := g) (most := mo) (l := ckV l') (ckV l') [] 12 0 (fun c hc => hc) (FullP.nil _ _ _ _ _)).2
      have hsome : 1 ≤ (fillF f t g mo [] (ckV l') 12 0).2 := by
        cases l' with
        | nil => simp at h0
        | cons x l' => exact fill_some x.c (ckV l')
      have HF := Lib.hid (fill_any f t g l' (by omega) (.slice A l'.length c) mo hmo1 hmo2 wr (hrk.below hs.below) (fun x hx => HFT.out x (hmem x hx)))
      obtain ⟨b, off, rfl, -⟩ : ∃ b off, A = some ⟨b, off, none⟩ ∧ True := by
        obtain ⟨A', c', hv, _, _, hh⟩ := hrk.row
        cases hv
        obtain ⟨b, off, e, _⟩ := hh (by omega)
        exact ⟨b, off, e, trivial⟩
      rw [ckV_drop] at he hle
      obtain ⟨A', c', hv, hcc, hcm, -⟩ := hrk.row
      cases hv
      have HD := Lib.hid (fun (A2 : Option Addr) (hA : _ < c → A2 = _) => hrk.drop (k := (fillF f t g mo [] (ckV l') 12 0).2) (by omega) A2 hA)
      have HMD := Lib.hid (show ∀ x ∈ l'.drop (fillF f t g mo [] (ckV l') 12 0).2, x ∈ l from fun x hx => hmem x (List.mem_of_mem_drop hx))
      have HE := Lib.hid hs
      have HRR := Lib.hid (he.symm.trans hrr)
      rw [hlen] at hfine
      rw [ckV_length, List.length_drop] at hle
      generalize hFg : fillF f t g mo [] (ckV l') 12 0 = F at *
      obtain ⟨Fl, dn⟩ := F
      dsimp only at HRR HD HMD hfine hsome hle HF
      have hl' := List.length_drop (i := dn) (l := l')
      generalize l'.drop dn = l2 at *
      have z0 : decide ((0 : Int) < (l'.length : Int)) = true := decide_eq_true (by omega)
      have z1 : (dn : Int) ≤ (l'.length : Int) := by omega
      have z2 : (0 : Int) ≤ (dn : Int) := by omega
      have z3 : (dn : Int) ≤ (c : Int) := by omega
      have z4 : (0 : Int) < (l'.length : Int) := by omega
      obtain ⟨e0, e1, e2, e3⟩ := HE.out.e
      clear hrk hs he hrr HQ hmem hFg
      go_wp2_with fail
      refine HF.out.mono ?_
      rintro _ w2 ⟨V', fl, rfl, hrk2, hck2, hb2⟩
      obtain ⟨VA, vk, rfl, -⟩ := hrk2.now.slice
      have HRF := Lib.hid (hrk2.base (B := w.heap.size + 1) HE.out.since)
      have HE2 := Lib.hid (HE.out.later hb2)
      have hFl : Fl.length = fl.length := by rw [← hck2, ckV_length]
      clear hrk2 hb2 e0 e1 e2 e3 HE HF
      by_cases hz : fl.length = 0
      · rw [if_pos (by omega)] at HRR
        have y0 : decide ((0 : Int) < (fl.length : Int)) = false := decide_eq_false (by omega)
        have HE3 := Lib.hid (HE2.out.later ((Below.refl _ _).alloc (Nat.le_refl _) (.cells #[.int .u16 (f : Int), .int .u16 (t : Int), .int .u32 (g : Int), .slice VA fl.length vk] 26)))
        go_wp2_with fail
        go_roundw
        case rel => exact ⟨n', l2, ps, _, _, by rw [hl'], by omega, by omega, Lib.hid ⟨HD.out _ (fun h => if_neg (by omega)), HMD.out, by have := HE3.out; rw [hz] at this; exact this, HRR.out⟩⟩
        case measure => simp only [lenOf8]; omega
      · rw [if_neg (by omega)] at HRR
        have y0 : decide ((0 : Int) < (fl.length : Int)) = true := decide_eq_true (by omega)
        have HE4 := Lib.hid ((HE2.out.later ((Below.refl _ _).alloc (Nat.le_refl _) (.cells #[.int .u16 (f : Int), .int .u16 (t : Int), .int .u32 (g : Int), .slice VA fl.length vk] 26))).later ((Below.refl _ _).alloc (Nat.le_refl _) (.cells #[.int .u16 (f : Int), .int .u16 (t : Int), .int .u32 (g : Int), .slice VA fl.length vk] 26)))
        have hps0 : ps.length ≤ 100000 := by omega
        go_wp2_with (at_builtin; refine wpList_append_fed _ rfl _ _ 53 53 rfl (w.heap.size + 1) 26 i0 _ 4 32 Tryz.underlying53 (.inr ⟨_, Tryz.underlying53⟩) HI.out HZ0.out HZ1.out HZ2.out rfl _ ps.length (flatP f t g ps) rfl HE4.out.row (.slice (some ⟨w2.heap.size + 1, 0, none⟩) 1 1) 1 [.int .u16 (f : Int), .int .u16 (t : Int), .int .u32 (g : Int), .slice VA fl.length vk] rfl (Fed.block (heap_new_at _ _ (by rw [World.size_alloc])) rfl (pk_ones f t g VA fl.length vk)) ?c3 ?c4 ?c5 ?_)
        case c3 => unfold maxLen; omega
        case c4 => omega
        case c5 => have := HE4.out.since; exact this
        intro v7 w7 hown7 hg7
        obtain ⟨XA, xk, rfl, -⟩ := hown7.slice
        have HE7 := Lib.hid (BuS.put (x := ⟨.slice VA fl.length vk, fl⟩) HE4.out (Below.refl _ _) ((HRF.out.later ((Below.refl _ _).alloc (Nat.le_refl _) _)).later ((Below.refl _ _).alloc (Nat.le_refl _) _)) hown7 hg7)
        clear hown7 hg7 HE4 HRF
        go_wp2_with fail
        go_roundw
        case rel => exact ⟨n', l2, ps ++ [⟨.slice VA fl.length vk, fl⟩], _, _, by rw [hl'], by omega, by rw [List.length_append, List.length_singleton]; omega, Lib.hid ⟨HD.out _ (fun h => if_neg (by omega)), HMD.out, by have := HE7.out; simpa using this, by have := HRR.out; rw [← hck2] at this; simpa [ckP] using this⟩⟩
        case measure => simp only [lenOf8]; omega
end Go.Proofs.YtlbaockipeojhaaGreat
