/-
  The document's parser of a packet: a contract.
-/
import Derived.Test.YtlbaockipeojhaaGreatR9U
import Derived.Test.YtlbaockipeojhaaGreatAll
import Derived.Test.YtlbaockipeojhaaGreatR8
import Derived.Test.YtlbaockipeojhaaGreatCrcR
import Derived.Test.YtlbaockipeojhaaGreatPparse
namespace Go.Proofs.YtlbaockipeojhaaGreat
open Go.RowKit
set_option linter.unusedVariables false
set_option linter.unusedSimpArgs false
set_option maxRecDepth 100000

theorem PartsN.cell {B : Nat} {U : Value} {W : World} {c : Ck} {g d it : Value} (h : PartsN B U W c g d it) {b : Nat} (hb : b < B) (i : Nat) (v : Value) : PartsN B U (W.setCell ⟨b, i, none⟩ v) c g d it :=
  fun W' hs hk => h W' (by simpa using hs) fun j hB hj hU => (hk j hB (by simpa using hj) hU).trans (Below.heap_setCell _ _ _ _ (by show j ≠ b; omega))
/-- A place for the packet that is handed back. -/
structure P8S (w W : World) : Prop where
  out : W.heap[w.heap.size]? = some (.cells #[.int .u16 0, .int .u16 0, .int .u32 0, .slice none 0 0] 35 (0, 0))
  below : Below w.heap.size w W
theorem P8S.later {w W W' : World} (h : P8S w W) (hb : Below W.heap.size W W') : P8S w W' :=
  ⟨(hb.block _ (Array.getElem?_eq_some_iff.1 h.out).1).trans h.out, h.below.trans (hb.mono h.below.size)⟩
/-- What the reading of chunks stands at. -/
structure P8L (x1 x2 x3 b5 : Nat) (acc : List Cv) (U : Value) (w W : World) : Prop where
  box : W.heap[b5]? = some (.cells #[.int .u16 (x1 : Int), .int .u16 (x2 : Int), .int .u32 (x3 : Int), U] 35 (0, 0))
  out : W.heap[w.heap.size]? = some (.cells #[.int .u16 0, .int .u16 0, .int .u32 0, .slice none 0 0] 35 (0, 0))
  row : OwnG W (b5 + 1) 74 14 U acc.length (flatK acc)
  parts : ∀ x ∈ acc, PartsN (b5 + 1) U W x.c x.g x.d x.it
  below : Below w.heap.size w W
section
variable {x1 x2 x3 b5 : Nat} {acc : List Cv} {U : Value} {w W W' : World}
theorem P8L.later (h : P8L x1 x2 x3 b5 acc U w W) (hb : Below W.heap.size W W') : P8L x1 x2 x3 b5 acc U w W' :=
  ⟨(hb.block _ (Array.getElem?_eq_some_iff.1 h.box).1).trans h.box, (hb.block _ (Array.getElem?_eq_some_iff.1 h.out).1).trans h.out, h.row.later hb, fun x hx => (h.parts x hx).later hb, h.below.trans (hb.mono h.below.size)⟩
theorem P8L.rk (h : P8L x1 x2 x3 b5 acc U w W) : Rk W U acc := ⟨rowK_of_own h.row, fun x hx => (h.parts x hx).now⟩
theorem P8L.gone (h : P8L x1 x2 x3 b5 acc U w W) (hb : w.heap.size < b5) (cs : Array Value) : Rk (W.setRow w.heap.size cs) U acc :=
  ⟨rowK_of_own (h.row.row9 (b := w.heap.size) (by omega) cs), fun x hx => h.parts x hx _ (by simp) fun j hB _ _ => setRow_other _ _ _ _ (by omega)⟩
theorem P8L.put {v7 : Value} {x : Cv} (h : P8L x1 x2 x3 b5 acc U w W) (hp : PartsN (b5 + 1) U W x.c x.g x.d x.it) (ho : OwnG W' (b5 + 1) 74 14 v7 (acc.length + 1) (flatK acc ++ x.cells.toList)) (hg : W.grownBy W' U.ownBlock)
    (hw : ∀ k, v7.ownBlock = some k → U.ownBlock = some k ∨ k = W.heap.size) (hb5 : w.heap.size < b5) : P8L x1 x2 x3 b5 (acc ++ [x]) v7 w (W'.setCell ⟨b5, 3, none⟩ v7) := by
  have h1 := (Array.getElem?_eq_some_iff.1 h.box).1
  have h2 := (Array.getElem?_eq_some_iff.1 h.out).1
  refine ⟨row_set ((hg.block b5 h1 (fun e => by have := (h.row.lt b5 e.symm).1; omega)).trans h.box) 3 v7, (Below.heap_setCell _ _ _ _ (by show w.heap.size ≠ b5; omega)).trans ((hg.block _ h2 (fun e => by have := (h.row.lt _ e.symm).1; omega)).trans h.out), ?_, fun y hy => ?_, Below.setCell (h.below.grown hg h.below.size fun k hk => by have := (h.row.lt k hk).1; omega) (by show w.heap.size ≤ b5; omega) _⟩
  · rw [List.length_append, flatK_append, flatK_one]
    exact ho.put9 (by omega) 3 v7
  · rcases List.mem_append.1 hy with hy | hy
    · exact ((h.parts y hy).put hg hw).cell (by omega) 3 v7
    · obtain rfl := List.mem_singleton.1 hy
      exact (hp.put hg hw).cell (by omega) 3 v7
end
set_option maxHeartbeats 16000000 in
theorem rparse8_any (s : ByteArray) (hs : s.size ≤ 100000) (w : World) :
    Calls Tryz.prog 15 #[.string s] w fun e w' => ∃ V lv, e = .returned (.tuple #[.agg (cellsP (parseP s).1.f (parseP s).1.t (parseP s).1.g V), .int .i64 ((parseP s).2 : Nat)]) ∧ Rk w' V lv ∧ ckV lv = (parseP s).1.l ∧ Below w.heap.size w w' := by
  have HPS := Lib.hid pk8Size
  have HZ1 := Lib.hid zp_one
  have HX := Lib.hid (heap_alloc_new w (.cells #[.int .u16 0, .int .u16 0, .int .u32 0, .slice none 0 0] 35))
  have HB := Lib.hid ((Below.refl w.heap.size w).alloc (Nat.le_refl _) (.cells #[.int .u16 0, .int .u16 0, .int .u32 0, .slice none 0 0] 35))
  have HCK := Lib.hid (fun W => rcheck_any s (by omega) W)
  by_cases h1 : 1500 < s.size
  · have HP := Lib.hid (parseP_1 h1)
    have z : decide ((1500 : Int) < (s.size : Int)) = true := decide_eq_true (by omega)
    generalize parseP s = R at *
    go_enter Tryz.func15, Tryz.ntmps15
    go_wp2_with (first
      | (refine wpList_store_row rfl 35 (.tmp 2) (.tmp 14) rfl w.heap.size #[.int .u16 0, .int .u16 0, .int .u32 0, .slice none 0 0] rfl rfl 35 _ HX.out HPS.out rfl HZ1.out ?_; rw [World.setRow_alloc_new]))
    have hR := HP.out
    subst hR
    exact bodyPost_ret (results_pk1 (P := Tryz.prog) rfl _ _ w.heap.size 35 #[.int .u16 0, .int .u16 0, .int .u32 0, .slice none 0 0] (0, 0) _ rfl HX.out Tryz.underlying35 rfl HPS.out) rfl ⟨_, [], rfl, Rk.nil _, rfl, HB.out⟩
  have h1' : s.size ≤ 1500 := by omega
  have z : decide ((1500 : Int) < (s.size : Int)) = false := decide_eq_false (by omega)
  have hlt0 : w.heap.size < (w.alloc (.cells #[.int .u16 0, .int .u16 0, .int .u32 0, .slice none 0 0] 35)).heap.size := by rw [World.size_alloc]; omega
  by_cases h2 : checked s = 0
  case neg =>
    have HP := Lib.hid (parseP_2 h1' h2)
    have hcn := checked_nat s
    have z2 : ((checked s) != 0) = true := bne_iff_ne.2 h2
    generalize parseP s = R at *
    generalize (checked s).toNat = cn at *
    go_enter Tryz.func15, Tryz.ntmps15
    go_wp2_with fail
    refine (HCK.out _).mono ?_
    rintro _ w1 ⟨rfl, hb1⟩
    have HX1 := Lib.hid ((hb1.block _ hlt0).trans HX.out)
    have HB1 := Lib.hid (HB.out.trans (hb1.mono HB.out.size))
    clear hb1
    go_wp2_with (first
      | (refine wpList_store_row rfl 35 (.tmp 2) (.tmp 19) rfl w.heap.size #[.int .u16 0, .int .u16 0, .int .u32 0, .slice none 0 0] rfl rfl 35 _ HX1.out HPS.out rfl HZ1.out ?_))
    have hR := HP.out
    subst hR
    exact bodyPost_ret (results_pk1 (P := Tryz.prog) rfl _ _ w.heap.size 35 #[.int .u16 0, .int .u16 0, .int .u32 0, .slice none 0 0] (0, 0) _ rfl (setRow_heap _ _ _ _ _ _ HX1.out) Tryz.underlying35 rfl HPS.out) rfl ⟨_, [], rfl, Rk.nil _, rfl, below_setRow HB1.out (Nat.le_refl _) _⟩
  have h12 : 12 ≤ s.size := by rcases checked_cases s with h | h | h <;> omega
  rw [h2] at HCK
  have HP3 := Lib.hid (fun h3 => parseP_3 h1' h2 h3)
  have HP4 := Lib.hid (fun h3 => parseP_4 h1' h2 h3)
  have HFI := Lib.hid (walkC_fine s.size [] (cutB s 12) (by simp))
  have hrd : readP s = ⟨num s.data.toList 0, num s.data.toList 2, num4 s.data.toList 4, (walkC s.size [] (cutB s 12)).1⟩ := rfl
  have HN1 := Lib.hid (fun W => rnumber8_2 (s.extract 0 2) (by rw [ByteArray.size_extract]; omega) W)
  have HN2 := Lib.hid (fun W => rnumber8_2 (s.extract 2 4) (by rw [ByteArray.size_extract]; omega) W)
  have HN3 := Lib.hid (fun W => rnumber8_4 (s.extract 4 8) (by rw [ByteArray.size_extract]; omega) W)
  rw [cut_num s 0 2 rfl (by omega)] at HN1
  rw [cut_num s 2 4 rfl (by omega)] at HN2
  rw [cut_num4 s 4 8 rfl (by omega)] at HN3
  rw [hrd] at HP4
  have hx1 := num_lt s.data.toList 0
  have hx2 := num_lt s.data.toList 2
  have hx3 := num4_lt s.data.toList 4
  generalize num s.data.toList 0 = x1 at *
  generalize num s.data.toList 2 = x2 at *
  generalize num4 s.data.toList 4 = x3 at *
  generalize readP s = rp at *
  generalize parseP s = R at *
  obtain ⟨Q, hQ⟩ : ∃ Q, walkC s.size [] (cutB s 12) = Q := ⟨_, rfl⟩
  rw [hQ] at HP3 HP4 HFI
  have HQ0 := Lib.hid hQ
  have y1 : IntKind.u16.wrap (x1 : Int) = (x1 : Int) := by rw [IntKind.wrap_u16]; omega
  have y2 : IntKind.u16.wrap (x2 : Int) = (x2 : Int) := by rw [IntKind.wrap_u16]; omega
  have y1' : (x1 : Int) % 65536 = (x1 : Int) := by omega
  have y2' : (x2 : Int) % 65536 = (x2 : Int) := by omega
  have z5 : (2 : Int) ≤ (s.size : Int) := by omega
  have z6 : (4 : Int) ≤ (s.size : Int) := by omega
  have z7 : (8 : Int) ≤ (s.size : Int) := by omega
  have HRS := Lib.hid rkSize8
  obtain ⟨i0, hi0, hz0, hz1, hz2⟩ := info_parts infoRk8
  have HI := Lib.hid hi0
  have HI0 := Lib.hid hz0
  have HI1 := Lib.hid hz1
  have HI2 := Lib.hid hz2
  clear hi0 hz0 hz1 hz2 hrd h1 h2 hQ hx1 hx2 hx3
  go_enter Tryz.func15, Tryz.ntmps15
  go_wp2_with fail
  refine (HCK.out _).mono ?_
  rintro _ w1 ⟨rfl, hb1⟩
  have HS := Lib.hid (show P8S w w1 from ⟨(hb1.block _ hlt0).trans HX.out, HB.out.trans (hb1.mono HB.out.size)⟩)
  clear hb1 HX HB HCK hlt0
  go_wp2_with fail
  refine wp_region_noPanic ?_
  refine wp_region_held_drew (S := (P8S w)) (by kernel_rfl) ?_ (fun hHeld => ?_)
  · exact HS.out.later (Below.refl _ _).drew
  refine k9 0 ?_ (y := ?_) (h := ?_)
  rotate_left 1
  · (intro w' hSw; clear hSw; go_simp; try with_reducible rfl)
  try simp only [Act.put, p9a, p9z, p9s]
  refine k9 1 ?_ (y := ?_) (h := ?_)
  rotate_left 1
  · (intro w' hSw; clear hSw; go_simp; try with_reducible rfl)
  try simp only [Act.put, p9a, p9z, p9s]
  refine k9 4 ?_ (y := ?_) (h := ?_)
  rotate_left 1
  · (intro w' hSw; clear hSw; go_simp; try with_reducible rfl)
  try simp only [Act.put, p9a, p9z, p9s]
  refine k9 5 ?_ (y := ?_) (h := ?_)
  rotate_left 1
  · (intro w' hSw; clear hSw; go_simp; try with_reducible rfl)
  try simp only [Act.put, p9a, p9z, p9s]
  refine k9 8 ?_ (y := ?_) (h := ?_)
  rotate_left 1
  · (intro w' hSw; clear hSw; go_simp; try with_reducible rfl)
  try simp only [Act.put, p9a, p9z, p9s]
  refine k9 9 ?_ (y := ?_) (h := ?_)
  rotate_left 1
  · (intro w' hSw; clear hSw; go_simp; try with_reducible rfl)
  try simp only [Act.put, p9a, p9z, p9s]
  refine wpAnyH_ready (rs := [2, 12]) (by kernel_rfl) (by simp) ?_
  refine AllReadyH.cons (by simp only [q9a, q9s, q9z]; rfl) (fun K hK => ?_) ?_
  go_simp
  refine (HN1.out _).mono ?_
  rintro _ wx ⟨rfl, rfl⟩
  have hS := hHeld
  clear hHeld
  go_wp2_with fail
  refine hK.out _ _ ?_ (fun hHeld => ?_)
  · exact hS
  clear hK K
  try simp only [Act.put, p9a, p9z, p9s]
  refine k9 3 ?_ (y := ?_) (h := ?_)
  rotate_left 1
  · (intro w' hSw; clear hSw; go_simp; try with_reducible rfl)
  try simp only [Act.put, p9a, p9z, p9s]
  refine wpAnyH_ready (rs := [6, 12]) (by kernel_rfl) (by simp) ?_
  refine AllReadyH.cons (by simp only [q9a, q9s, q9z]; rfl) (fun K hK => ?_) ?_
  go_simp
  refine (HN2.out _).mono ?_
  rintro _ wx ⟨rfl, rfl⟩
  have hS := hHeld
  clear hHeld
  go_wp2_with fail
  refine hK.out _ _ ?_ (fun hHeld => ?_)
  · exact hS
  clear hK K
  try simp only [Act.put, p9a, p9z, p9s]
  refine k9 7 ?_ (y := ?_) (h := ?_)
  rotate_left 1
  · (intro w' hSw; clear hSw; go_simp; try with_reducible rfl)
  try simp only [Act.put, p9a, p9z, p9s]
  refine wpAnyH_ready (rs := [10, 12]) (by kernel_rfl) (by simp) ?_
  refine AllReadyH.cons (by simp only [q9a, q9s, q9z]; rfl) (fun K hK => ?_) ?_
  go_simp
  refine (HN3.out _).mono ?_
  rintro _ wx ⟨rfl, rfl⟩
  have hS := hHeld
  clear hHeld
  go_wp2_with fail
  refine hK.out _ _ ?_ (fun hHeld => ?_)
  · exact hS
  clear hK K
  try simp only [Act.put, p9a, p9z, p9s]
  refine k9 11 ?_ (y := ?_) (h := ?_)
  rotate_left 1
  · (intro w' hSw; clear hSw; go_simp; try with_reducible rfl)
  try simp only [Act.put, p9a, p9z, p9s]
  refine wpAnyH_ready (rs := [12]) (by kernel_rfl) (by simp) ?_
  refine AllReadyH.cons (by simp only [q9a, q9s, q9z]; rfl) (fun K hK => ?_) AllReadyH.nil
  have hS := hHeld.later ((Below.refl _ _).alloc (Nat.le_refl _) (.cells #[.int .u16 0, .int .u16 0, .int .u32 0, .slice none 0 0] 35))
  clear hHeld
  go_simp
  refine hK.out _ _ ?_ (fun hHeld => ?_)
  · exact hS
  clear hK K
  try simp only [Act.put, p9a, p9z, p9s]
  refine wpAnyH_ready (rs := [13]) (by kernel_rfl) (by simp) ?_
  refine AllReadyH.cons (by simp only [q9a, q9s, q9z]; rfl) (fun K hK => ?_) AllReadyH.nil
  have hS := HS.out.later (((Below.refl _ w1).drew).alloc (Nat.le_refl _) (.cells #[.int .u16 (x1 : Int), .int .u16 (x2 : Int), .int .u32 (x3 : Int), .slice none 0 0] 35))
  clear hHeld
  go_simp
  refine hK.out _ _ ?_ (fun hHeld => ?_)
  · exact hS
  clear hK K
  try simp only [Act.put, p9a, p9z, p9s]
  refine wpAnyH_done (by kernel_rfl) ?_ _
  refine NoPanic.normal ?_
  rotate_left 1
  refine AllReadyH.cons (by simp only [q9a, q9s, q9z]; rfl) (fun K hK => ?_) AllReadyH.nil
  have hS := hHeld.later ((Below.refl _ _).alloc (Nat.le_refl _) (.cells #[.int .u16 0, .int .u16 0, .int .u32 0, .slice none 0 0] 35))
  clear hHeld
  go_simp
  refine hK.out _ _ ?_ (fun hHeld => ?_)
  · exact hS
  clear hK K
  try simp only [Act.put, p9a, p9z, p9s]
  refine wpAnyH_ready (rs := [10]) (by kernel_rfl) (by simp) ?_
  refine AllReadyH.cons (by simp only [q9a, q9s, q9z]; rfl) (fun K hK => ?_) AllReadyH.nil
  go_simp
  refine (HN3.out _).mono ?_
  rintro _ wx ⟨rfl, rfl⟩
  have hS := hHeld
  clear hHeld
  go_wp2_with fail
  refine hK.out _ _ ?_ (fun hHeld => ?_)
  · exact hS
  clear hK K
  try simp only [Act.put, p9a, p9z, p9s]
  refine k9 11 ?_ (y := ?_) (h := ?_)
  rotate_left 1
  · (intro w' hSw; clear hSw; go_simp; try with_reducible rfl)
  try simp only [Act.put, p9a, p9z, p9s]
  refine wpAnyH_ready (rs := [13]) (by kernel_rfl) (by simp) ?_
  refine AllReadyH.cons (by simp only [q9a, q9s, q9z]; rfl) (fun K hK => ?_) AllReadyH.nil
  have hS := HS.out.later (((Below.refl _ w1).drew).alloc (Nat.le_refl _) (.cells #[.int .u16 (x1 : Int), .int .u16 (x2 : Int), .int .u32 (x3 : Int), .slice none 0 0] 35))
  clear hHeld
  go_simp
  refine hK.out _ _ ?_ (fun hHeld => ?_)
  · exact hS
  clear hK K
  try simp only [Act.put, p9a, p9z, p9s]
  refine wpAnyH_done (by kernel_rfl) ?_ _
  refine NoPanic.normal ?_
  rotate_left 1
  refine AllReadyH.cons (by simp only [q9a, q9s, q9z]; rfl) (fun K hK => ?_) AllReadyH.nil
  have hS := hHeld.later ((Below.refl _ _).alloc (Nat.le_refl _) (.cells #[.int .u16 0, .int .u16 0, .int .u32 0, .slice none 0 0] 35))
  clear hHeld
  go_simp
  refine hK.out _ _ ?_ (fun hHeld => ?_)
  · exact hS
  clear hK K
  try simp only [Act.put, p9a, p9z, p9s]
  refine wpAnyH_ready (rs := [6]) (by kernel_rfl) (by simp) ?_
  refine AllReadyH.cons (by simp only [q9a, q9s, q9z]; rfl) (fun K hK => ?_) AllReadyH.nil
  go_simp
  refine (HN2.out _).mono ?_
  rintro _ wx ⟨rfl, rfl⟩
  have hS := hHeld
  clear hHeld
  go_wp2_with fail
  refine hK.out _ _ ?_ (fun hHeld => ?_)
  · exact hS
  clear hK K
  try simp only [Act.put, p9a, p9z, p9s]
  refine k9 7 ?_ (y := ?_) (h := ?_)
  rotate_left 1
  · (intro w' hSw; clear hSw; go_simp; try with_reducible rfl)
  try simp only [Act.put, p9a, p9z, p9s]
  refine wpAnyH_ready (rs := [10]) (by kernel_rfl) (by simp) ?_
  refine AllReadyH.cons (by simp only [q9a, q9s, q9z]; rfl) (fun K hK => ?_) AllReadyH.nil
  go_simp
  refine (HN3.out _).mono ?_
  rintro _ wx ⟨rfl, rfl⟩
  have hS := hHeld
  clear hHeld
  go_wp2_with fail
  refine hK.out _ _ ?_ (fun hHeld => ?_)
  · exact hS
  clear hK K
  try simp only [Act.put, p9a, p9z, p9s]
  refine k9 11 ?_ (y := ?_) (h := ?_)
  rotate_left 1
  · (intro w' hSw; clear hSw; go_simp; try with_reducible rfl)
  try simp only [Act.put, p9a, p9z, p9s]
  refine wpAnyH_ready (rs := [13]) (by kernel_rfl) (by simp) ?_
  refine AllReadyH.cons (by simp only [q9a, q9s, q9z]; rfl) (fun K hK => ?_) AllReadyH.nil
  have hS := HS.out.later (((Below.refl _ w1).drew).alloc (Nat.le_refl _) (.cells #[.int .u16 (x1 : Int), .int .u16 (x2 : Int), .int .u32 (x3 : Int), .slice none 0 0] 35))
  clear hHeld
  go_simp
  refine hK.out _ _ ?_ (fun hHeld => ?_)
  · exact hS
  clear hK K
  try simp only [Act.put, p9a, p9z, p9s]
  refine wpAnyH_done (by kernel_rfl) ?_ _
  refine NoPanic.normal ?_
  rotate_left 1
  refine AllReadyH.cons (by simp only [q9a, q9s, q9z]; rfl) (fun K hK => ?_) AllReadyH.nil
  have hS := hHeld.later ((Below.refl _ _).alloc (Nat.le_refl _) (.cells #[.int .u16 0, .int .u16 0, .int .u32 0, .slice none 0 0] 35))
  clear hHeld
  go_simp
  refine hK.out _ _ ?_ (fun hHeld => ?_)
  · exact hS
  clear hK K
  try simp only [Act.put, p9a, p9z, p9s]
  refine wpAnyH_ready (rs := [2]) (by kernel_rfl) (by simp) ?_
  refine AllReadyH.cons (by simp only [q9a, q9s, q9z]; rfl) (fun K hK => ?_) AllReadyH.nil
  go_simp
  refine (HN1.out _).mono ?_
  rintro _ wx ⟨rfl, rfl⟩
  have hS := hHeld
  clear hHeld
  go_wp2_with fail
  refine hK.out _ _ ?_ (fun hHeld => ?_)
  · exact hS
  clear hK K
  try simp only [Act.put, p9a, p9z, p9s]
  refine k9 3 ?_ (y := ?_) (h := ?_)
  rotate_left 1
  · (intro w' hSw; clear hSw; go_simp; try with_reducible rfl)
  try simp only [Act.put, p9a, p9z, p9s]
  refine wpAnyH_ready (rs := [6]) (by kernel_rfl) (by simp) ?_
  refine AllReadyH.cons (by simp only [q9a, q9s, q9z]; rfl) (fun K hK => ?_) AllReadyH.nil
  go_simp
  refine (HN2.out _).mono ?_
  rintro _ wx ⟨rfl, rfl⟩
  have hS := hHeld
  clear hHeld
  go_wp2_with fail
  refine hK.out _ _ ?_ (fun hHeld => ?_)
  · exact hS
  clear hK K
  try simp only [Act.put, p9a, p9z, p9s]
  refine k9 7 ?_ (y := ?_) (h := ?_)
  rotate_left 1
  · (intro w' hSw; clear hSw; go_simp; try with_reducible rfl)
  try simp only [Act.put, p9a, p9z, p9s]
  refine wpAnyH_ready (rs := [10]) (by kernel_rfl) (by simp) ?_
  refine AllReadyH.cons (by simp only [q9a, q9s, q9z]; rfl) (fun K hK => ?_) AllReadyH.nil
  go_simp
  refine (HN3.out _).mono ?_
  rintro _ wx ⟨rfl, rfl⟩
  have hS := hHeld
  clear hHeld
  go_wp2_with fail
  refine hK.out _ _ ?_ (fun hHeld => ?_)
  · exact hS
  clear hK K
  try simp only [Act.put, p9a, p9z, p9s]
  refine k9 11 ?_ (y := ?_) (h := ?_)
  rotate_left 1
  · (intro w' hSw; clear hSw; go_simp; try with_reducible rfl)
  try simp only [Act.put, p9a, p9z, p9s]
  refine wpAnyH_ready (rs := [13]) (by kernel_rfl) (by simp) ?_
  refine AllReadyH.cons (by simp only [q9a, q9s, q9z]; rfl) (fun K hK => ?_) AllReadyH.nil
  have hS := HS.out.later (((Below.refl _ w1).drew).alloc (Nat.le_refl _) (.cells #[.int .u16 (x1 : Int), .int .u16 (x2 : Int), .int .u32 (x3 : Int), .slice none 0 0] 35))
  clear hHeld
  go_simp
  refine hK.out _ _ ?_ (fun hHeld => ?_)
  · exact hS
  clear hK K
  try simp only [Act.put, p9a, p9z, p9s]
  refine wpAnyH_done (by kernel_rfl) ?_ _
  refine NoPanic.normal ?_
  rotate_left 1
  all_goals
    have HE := Lib.hid hHeld
    have hE2 : (w1.drew.alloc (.cells #[.int .u16 (x1 : Int), .int .u16 (x2 : Int), .int .u32 (x3 : Int), .slice none 0 0] 35)).heap[w1.heap.size]? = some (.cells #[.int .u16 (x1 : Int), .int .u16 (x2 : Int), .int .u32 (x3 : Int), .slice none 0 0] 35 (0, 0)) := heap_alloc_new w1.drew (.cells #[.int .u16 (x1 : Int), .int .u16 (x2 : Int), .int .u32 (x3 : Int), .slice none 0 0] 35)
    have hb5 : w.heap.size < w1.heap.size := (Array.getElem?_eq_some_iff.1 HS.out.out).1
    have HL0 : Hid (P8L x1 x2 x3 w1.heap.size [] (.slice none 0 0) w (w1.drew.alloc (.cells #[.int .u16 (x1 : Int), .int .u16 (x2 : Int), .int .u32 (x3 : Int), .slice none 0 0] 35))) := Lib.hid ⟨hE2, HE.out.out, OwnG.nil _ _ _ _, by simp, HE.out.below⟩
    clear hHeld hS hE2 HE HS HN1 HN2 HN3
    go_wp2_with fail
    generalize w1.heap.size = b5 at *
    go_loopw [6] (fun av wr => ∃ (n p : Nat) (acc : List Cv) (UA : Option Addr) (uk : Nat), av = .int .i64 p ∧ p ≤ s.size ∧ s.size ≤ n + p ∧ acc.length + s.size ≤ 1500 + p ∧ Hid (P8L x1 x2 x3 b5 acc (.slice UA acc.length uk) w wr ∧ walkC n (ckV acc) (cutB s p) = Q))
      (fun av _ => s.size - (intOf av).toNat)
    case atStart => exact ⟨s.size, 12, [], none, 0, rfl, h12, by omega, by simp only [List.length_nil]; omega, Lib.hid ⟨HL0.out, HQ0.out⟩⟩
    case round =>
      obtain ⟨n, p, acc, UA, uk, rfl, hps, hn, hac, HQ⟩ := hrel
      obtain ⟨hl, hw⟩ := HQ.out
      have HL := Lib.hid hl
      clear HL0 HQ0 HQ hl
      by_cases hlt : p < s.size
      · have q1 : (p : Int) < (s.size : Int) := by omega
        have q2 : (p : Int) ≤ (s.size : Int) := by omega
        have hcz := cut_size s p
        have hcs := cut_is8 s p
        have HPA := Lib.hid (rparse7_any (cutB s p) (by omega) wr)
        by_cases he : (parseC (cutB s p)).2.2 = 0
        case neg =>
          have hF := (walkC_err (n := n) (ckV acc) (by omega) (by omega) he).symm.trans hw
          have HR := Lib.hid (HP3.out (by rw [← hF]; exact he))
          rw [← hF] at HR
          have z2 : ((((parseC (cutB s p)).2.2 : Nat) : Int) != 0) = true := bne_iff_ne.2 (by omega)
          clear hF hw HP3 HP4 HFI
          generalize (parseC (cutB s p)).2.2 = e0 at *
          generalize (parseC (cutB s p)).2.1 = n0 at *
          generalize (parseC (cutB s p)).1 = c at *
          clear hcz
          generalize cutB s p = rest at *
          go_wp2_with fail
          refine HPA.out.mono ?_
          rintro _ w2 ⟨g, d, it, rfl, hp2, -, hb2⟩
          obtain ⟨⟨A1, k1, rfl⟩, ⟨A2, k2, rfl⟩, ⟨A3, k3, rfl⟩⟩ := hp2.slices
          have HL2 := Lib.hid ((HL.out.later hb2).later ((Below.refl _ _).alloc (Nat.le_refl _) (.cells #[.int .i64 c.type, .int .i64 c.flags, .int .u32 (c.tsn : Int), .int .u32 (c.tag : Int), .int .u32 (c.window : Int), .int .u32 (c.ppid : Int), .int .u16 (c.stream : Int), .int .u16 (c.ssn : Int), .int .u16 (c.outs : Int), .int .u16 (c.ins : Int), .slice A1 c.gaps.length k1, .slice A2 c.dups.length k2, .slice A3 c.items.length k3, .string c.text] 74)))
          clear hp2 hb2 HPA HL
          dsimp only [cellsC] at *
          go_wp2_with (first
            | (refine wpList_store_row rfl 35 (.tmp 2) (.tmp 47) rfl w.heap.size #[.int .u16 0, .int .u16 0, .int .u32 0, .slice none 0 0] rfl rfl 35 _ HL2.out.out HPS.out rfl HZ1.out ?_))
          have hR := HR.out
          subst hR
          exact bodyPost_ret (results_pk1 (P := Tryz.prog) rfl _ _ w.heap.size 35 #[.int .u16 0, .int .u16 0, .int .u32 0, .slice none 0 0] (0, 0) _ rfl (setRow_heap _ _ _ _ _ _ HL2.out.out) Tryz.underlying35 rfl HPS.out) rfl ⟨_, [], rfl, Rk.nil _, rfl, below_setRow HL2.out.below (Nat.le_refl _) _⟩
        obtain ⟨m, rfl, hgo⟩ := walkC_go (n := n) (ckV acc) (by omega) (by omega) he
        obtain ⟨-, -, a3, -, -, a6, a7, -⟩ := chunk_again he
        have hF := hgo.symm.trans hw
        rw [cut_cut] at hF
        have HF := Lib.hid hF
        rw [he] at HPA
        clear hF hgo hw he
        generalize (parseC (cutB s p)).2.1 = n0 at *
        generalize (parseC (cutB s p)).1 = c at *
        have z8 : p + n0 ≤ s.size := by omega
        have z9 : (p : Int) + (n0 : Int) ≤ (s.size : Int) := by omega
        have z10 : 0 < n0 := by omega
        clear a3 a6 a7 hcz
        generalize cutB s p = rest at *
        have HU := Lib.hid (fun k (hk : (Value.slice UA acc.length uk).ownBlock = some k) => (HL.out.row.lt k hk).2)
        have hbl : b5 + 1 ≤ wr.heap.size := (Array.getElem?_eq_some_iff.1 HL.out.box).1
        go_wp2_with fail
        refine HPA.out.mono ?_
        rintro _ w2 ⟨g, d, it, rfl, hp2, ha2, hb2⟩
        have HPN := Lib.hid (PartsN.new (B := b5 + 1) hp2 ha2 HU.out hbl)
        obtain ⟨⟨A1, k1, rfl⟩, ⟨A2, k2, rfl⟩, ⟨A3, k3, rfl⟩⟩ := hp2.slices
        have HL2 := Lib.hid (HL.out.later hb2)
        have hbl2 : b5 + 1 ≤ w2.heap.size := Nat.le_trans hbl hb2.size
        clear hp2 ha2 hb2 HPA HL HU
        dsimp only [cellsC] at *
        have HL3 := Lib.hid (HL2.out.later ((Below.refl _ _).alloc (Nat.le_refl _) (.cells #[.int .i64 c.type, .int .i64 c.flags, .int .u32 (c.tsn : Int), .int .u32 (c.tag : Int), .int .u32 (c.window : Int), .int .u32 (c.ppid : Int), .int .u16 (c.stream : Int), .int .u16 (c.ssn : Int), .int .u16 (c.outs : Int), .int .u16 (c.ins : Int), .slice A1 c.gaps.length k1, .slice A2 c.dups.length k2, .slice A3 c.items.length k3, .string c.text] 74)))
        have HB7 := Lib.hid (heap_alloc_new w2 (.cells #[.int .i64 c.type, .int .i64 c.flags, .int .u32 (c.tsn : Int), .int .u32 (c.tag : Int), .int .u32 (c.window : Int), .int .u32 (c.ppid : Int), .int .u16 (c.stream : Int), .int .u16 (c.ssn : Int), .int .u16 (c.outs : Int), .int .u16 (c.ins : Int), .slice A1 c.gaps.length k1, .slice A2 c.dups.length k2, .slice A3 c.items.length k3, .string c.text] 74))
        have HL4 := Lib.hid (HL3.out.later ((Below.refl _ _).alloc (Nat.le_refl _) (.cells #[.int .i64 c.type, .int .i64 c.flags, .int .u32 (c.tsn : Int), .int .u32 (c.tag : Int), .int .u32 (c.window : Int), .int .u32 (c.ppid : Int), .int .u16 (c.stream : Int), .int .u16 (c.ssn : Int), .int .u16 (c.outs : Int), .int .u16 (c.ins : Int), .slice A1 c.gaps.length k1, .slice A2 c.dups.length k2, .slice A3 c.items.length k3, .string c.text] 74)))
        have HPN4 := Lib.hid ((HPN.out.later ((Below.refl _ _).alloc (Nat.le_refl _) (.cells #[.int .i64 c.type, .int .i64 c.flags, .int .u32 (c.tsn : Int), .int .u32 (c.tag : Int), .int .u32 (c.window : Int), .int .u32 (c.ppid : Int), .int .u16 (c.stream : Int), .int .u16 (c.ssn : Int), .int .u16 (c.outs : Int), .int .u16 (c.ins : Int), .slice A1 c.gaps.length k1, .slice A2 c.dups.length k2, .slice A3 c.items.length k3, .string c.text] 74))).later ((Below.refl _ _).alloc (Nat.le_refl _) (.cells #[.int .i64 c.type, .int .i64 c.flags, .int .u32 (c.tsn : Int), .int .u32 (c.tag : Int), .int .u32 (c.window : Int), .int .u32 (c.ppid : Int), .int .u16 (c.stream : Int), .int .u16 (c.ssn : Int), .int .u16 (c.outs : Int), .int .u16 (c.ins : Int), .slice A1 c.gaps.length k1, .slice A2 c.dups.length k2, .slice A3 c.items.length k3, .string c.text] 74)))
        have HONE5 := Lib.hid (ck_ones c A1 A2 A3 k1 k2 k3)
        have c3 : (w2.alloc (.cells #[.int .i64 c.type, .int .i64 c.flags, .int .u32 (c.tsn : Int), .int .u32 (c.tag : Int), .int .u32 (c.window : Int), .int .u32 (c.ppid : Int), .int .u16 (c.stream : Int), .int .u16 (c.ssn : Int), .int .u16 (c.outs : Int), .int .u16 (c.ins : Int), .slice A1 c.gaps.length k1, .slice A2 c.dups.length k2, .slice A3 c.items.length k3, .string c.text] 74)).cell? ⟨b5, 3, none⟩ = some (.slice UA acc.length uk) := by rw [cell_in HL3.out.box]; rfl
        clear HL2 HPN
        go_wp2_with (first
          | (refine wpList_load_row rfl 74 (.tmp 7) rfl w2.heap.size rfl 74 #[.int .i64 c.type, .int .i64 c.flags, .int .u32 (c.tsn : Int), .int .u32 (c.tag : Int), .int .u32 (c.window : Int), .int .u32 (c.ppid : Int), .int .u16 (c.stream : Int), .int .u16 (c.ssn : Int), .int .u16 (c.outs : Int), .int .u16 (c.ins : Int), .slice A1 c.gaps.length k1, .slice A2 c.dups.length k2, .slice A3 c.items.length k3, .string c.text] (0, 0) _ HB7.out Tryz.underlying74 rfl HRS.out ?_)
          | (at_builtin; refine wpList_append_where _ rfl _ _ 33 33 rfl (b5 + 1) 74 i0 _ 14 128 Tryz.underlying33 (.inr ⟨_, Tryz.underlying33⟩) HI.out HI0.out HI1.out HI2.out rfl _ acc.length (flatK acc) rfl HL4.out.row (.slice (some ⟨w2.heap.size + 1, 0, none⟩) 1 1) 1 [.int .i64 c.type, .int .i64 c.flags, .int .u32 (c.tsn : Int), .int .u32 (c.tag : Int), .int .u32 (c.window : Int), .int .u32 (c.ppid : Int), .int .u16 (c.stream : Int), .int .u16 (c.ssn : Int), .int .u16 (c.outs : Int), .int .u16 (c.ins : Int), .slice A1 c.gaps.length k1, .slice A2 c.dups.length k2, .slice A3 c.items.length k3, .string c.text] rfl (Fed.block (heap_new_at _ _ (by rw [World.size_alloc])) rfl HONE5.out) ?c3 ?c4 ?c5 ?_))
        case c3 => unfold maxLen; omega
        case c4 => omega
        case c5 => simp only [World.size_alloc]; omega
        intro v7 w7 hown7 hg7 hw7
        have HN := Lib.hid (P8L.put (x := ⟨c, .slice A1 c.gaps.length k1, .slice A2 c.dups.length k2, .slice A3 c.items.length k3⟩) HL4.out HPN4.out hown7 hg7 (by simp only [World.size_alloc]; exact hw7) hb5)
        obtain ⟨VA, vk, rfl, -⟩ := hown7.slice
        have hbx := (hg7.block b5 (Array.getElem?_eq_some_iff.1 HL4.out.box).1 (fun e => by have := (HL4.out.row.lt b5 e.symm).1; omega)).trans HL4.out.box
        have c3' : w7.cell? ⟨b5, 3, none⟩ = some (.slice UA acc.length uk) := by rw [cell_in hbx]; rfl
        have f3' : w7.frozen? ⟨b5, 3, none⟩ = false := frozen_of_row hbx 3
        clear hown7 hg7 hw7 hbx c3 HL3 HL4 HPN4 HB7
        go_wp2_with fail
        go_roundw
        case rel => exact ⟨m, p + n0, acc ++ [⟨c, .slice A1 c.gaps.length k1, .slice A2 c.dups.length k2, .slice A3 c.items.length k3⟩], VA, vk, by go_num, z8, by omega, by rw [List.length_append, List.length_singleton]; omega, Lib.hid ⟨by rw [List.length_append]; exact HN.out, by have := HF.out; simpa [ckV] using this⟩⟩
        case measure => simp [intOf]; omega
      · obtain rfl : p = s.size := by omega
        have hF := (walkC_end n (ckV acc) (by rw [cut_size]; omega)).symm.trans hw
        have HR := Lib.hid (HP4.out (by rw [← hF]))
        rw [← hF] at HR HFI
        dsimp only at HR HFI
        have HFT : Hid (∀ x ∈ acc, FitC x.c) := Lib.hid (fun x hx => fit_ok (HFI.out _ (List.mem_map.2 ⟨x, hx, rfl⟩)).1 (HFI.out _ (List.mem_map.2 ⟨x, hx, rfl⟩)).2)
        have HRT := Lib.hid (fun W hW => rright8_any x1 x2 x3 (.slice UA acc.length uk) acc (by omega) HFT.out W hW)
        clear hF hw HP3 HP4 HFI HFT
        generalize buildP ⟨x1, x2, x3, ckV acc⟩ = B at *
        obtain ⟨bs, be⟩ := B
        dsimp only [cellsP] at HR HRT
        go_wp2_with (first
          | (refine wpList_load_row rfl 35 (.tmp 5) rfl b5 rfl 35 #[.int .u16 (x1 : Int), .int .u16 (x2 : Int), .int .u32 (x3 : Int), .slice UA acc.length uk] (0, 0) _ HL.out.box Tryz.underlying35 rfl HPS.out ?_))
        refine (HRT.out _ HL.out.rk).mono ?_
        rintro _ w3 ⟨rfl, hb3⟩
        have HL3 := Lib.hid (HL.out.later hb3)
        clear hb3 HL
        by_cases hbe : be = 0
        case neg =>
          rw [if_neg hbe] at HR
          rw [decide_eq_false hbe]
          go_wp2_with (first
            | (refine wpList_store_row rfl 35 (.tmp 2) (.tmp 62) rfl w.heap.size #[.int .u16 0, .int .u16 0, .int .u32 0, .slice none 0 0] rfl rfl 35 _ HL3.out.out HPS.out rfl HZ1.out ?_))
          have hR := HR.out
          subst hR
          exact bodyPost_ret (results_pk1 (P := Tryz.prog) rfl _ _ w.heap.size 35 #[.int .u16 0, .int .u16 0, .int .u32 0, .slice none 0 0] (0, 0) _ rfl (setRow_heap _ _ _ _ _ _ HL3.out.out) Tryz.underlying35 rfl HPS.out) rfl ⟨_, [], rfl, Rk.nil _, rfl, below_setRow HL3.out.below (Nat.le_refl _) _⟩
        subst hbe
        rw [if_pos rfl] at HR
        rw [decide_eq_true rfl]
        have HONE := Lib.hid (pk_one x1 x2 x3 UA acc.length uk)
        go_wp2_with (first
          | (refine wpList_load_row rfl 35 (.tmp 5) rfl b5 rfl 35 #[.int .u16 (x1 : Int), .int .u16 (x2 : Int), .int .u32 (x3 : Int), .slice UA acc.length uk] (0, 0) _ HL3.out.box Tryz.underlying35 rfl HPS.out ?_)
          | (refine wpList_store_row rfl 35 (.tmp 2) (.tmp 63) rfl w.heap.size #[.int .u16 (x1 : Int), .int .u16 (x2 : Int), .int .u32 (x3 : Int), .slice UA acc.length uk] rfl rfl 35 _ HL3.out.out HPS.out rfl HONE.out ?_))
        have hR := HR.out
        subst hR
        exact bodyPost_ret (results_pk1 (P := Tryz.prog) rfl _ _ w.heap.size 35 #[.int .u16 (x1 : Int), .int .u16 (x2 : Int), .int .u32 (x3 : Int), .slice UA acc.length uk] (0, 0) _ rfl (setRow_heap _ _ _ _ _ _ HL3.out.out) Tryz.underlying35 rfl HPS.out) rfl ⟨_, acc, rfl, HL3.out.gone hb5 _, rfl, below_setRow HL3.out.below (Nat.le_refl _) _⟩
end Go.Proofs.YtlbaockipeojhaaGreat
