/-
  The chunk that tells of what came is right; where the law GotTells stands.
-/
import Derived.Test.YtfdnphkdpmlbnaaGz
import Derived.Test.YtfdnphkdpmlbnaaGx
import Derived.Test.YtfdnphkdpmlbnaaGv
import Derived.Test.YtfdnphkdpmlbnaaGs
import Derived.Test.YtfdnphkdpmlbnaaCkBuild
namespace Go.Proofs.Ytfdnphkdpmlbnaa
open Go.RowKit
set_option linter.unusedVariables false
set_option linter.unusedSimpArgs false
set_option maxRecDepth 100000

theorem runs_first (s : List UInt32) : ∀ p ∈ runs s, p.1 ∈ s := by
  induction s using list_snoc_rec with
  | h0 => intro p hp; simp [runs] at hp
  | h1 l x ih =>
    intro p hp
    rw [runs_snoc] at hp
    rcases List.eq_nil_or_concat (runs l) with h | ⟨rs, q, h⟩
    · rw [h, runStep_nil] at hp
      obtain rfl := List.mem_singleton.1 hp
      simp
    · rw [List.concat_eq_append] at h
      rw [h] at hp ih
      by_cases e : q.2 + 1 = x
      · rw [runStep_yes rs q x e] at hp
        rcases List.mem_append.1 hp with hp | hp
        · exact List.mem_append_left _ (ih p (List.mem_append_left _ hp))
        · obtain rfl := List.mem_singleton.1 hp
          exact List.mem_append_left _ (ih q (by simp))
      · rw [runStep_no rs q x e] at hp
        rcases List.mem_append.1 hp with hp | hp
        · exact List.mem_append_left _ (ih p hp)
        · obtain rfl := List.mem_singleton.1 hp
          simp
theorem apart_of : ∀ (l : List (Nat × Nat)) (n : Nat), (∀ g ∈ l, g.1 ≤ g.2) → l.Pairwise (fun g h => g.2 + 1 < h.1) → (∀ g ∈ l, n ≤ g.1) → apartB n l = true
  | [], n, _, _, _ => rfl
  | g :: l, n, h1, h2, h3 => by
    rw [List.pairwise_cons] at h2
    unfold apartB
    rw [Bool.and_eq_true]
    refine ⟨decide_eq_true ⟨h3 g (by simp), h1 g (by simp)⟩, apart_of l (g.2 + 2) (fun x hx => h1 x (List.mem_cons_of_mem _ hx)) h2.2 (fun x hx => ?_)⟩
    have := h2.1 x hx
    omega
theorem gaps_apart {c : UInt32} {ab du : List UInt32} (hr : RightG ⟨c, ab, du⟩) : apartB 1 (gapsG ⟨c, ab, du⟩) = true := by
  have hst : Strict c ab := hr.strict
  have hnear : ∀ x ∈ ab, 2 ≤ key c x ∧ key c x ≤ 4000 := hr.near
  have hg : gapsG ⟨c, ab, du⟩ = ((runs ab).map (gapOf c)).take 100 := by
    show List.take 100 (List.map (gapOf c) (runs (srt c ab))) = _
    rw [← srt_eq c ab ab hst (fun z => Iff.rfl)]
  obtain ⟨f1, f2, _, _, f5⟩ := runs_facts c ab hst
  have f6 := runs_first ab
  have hk : ∀ p ∈ runs ab, gapOf c p = (key c p.1, key c p.2) := fun p hp => by
    have h1 := hnear _ (f6 p hp)
    have h2 := hnear _ (f5 p hp)
    unfold gapOf
    rw [Nat.mod_eq_of_lt (by omega), Nat.mod_eq_of_lt (by omega)]
  rw [hg]
  refine apart_of _ _ (fun g hgm => ?_) (List.Pairwise.sublist (List.take_sublist _ _) ?_) (fun g hgm => ?_)
  · obtain ⟨p, hp, rfl⟩ := List.mem_map.1 (List.mem_of_mem_take hgm)
    rw [hk p hp]
    exact f1 p hp
  · rw [List.pairwise_map]
    refine List.Pairwise.imp_of_mem (fun {p q} hp hq h => ?_) f2
    rw [hk p hp, hk q hq]
    exact h
  · obtain ⟨p, hp, rfl⟩ := List.mem_map.1 (List.mem_of_mem_take hgm)
    rw [hk p hp]
    have := (hnear _ (f6 p hp)).1
    show 1 ≤ key c p.1
    omega
/-- The chunk that Sack makes. -/
def sackK (c : Nat) (n : Nat) (gs : List (Nat × Nat)) (du : List Nat) : Ck := ⟨3, 0, c, 0, n, 0, 0, 0, 0, 0, gs, du, [], noB⟩
theorem sackK_wf {c n : Nat} {gs : List (Nat × Nat)} {du : List Nat} (hc : c < 4294967296) (hn : n < 4294967296) (hg : ∀ g ∈ gs, g.1 < 65536 ∧ g.2 < 65536) (hd : ∀ d ∈ du, d < 4294967296) : WfC (sackK c n gs du) :=
  ⟨hc, by show 0 < _; omega, hn, by show 0 < _; omega, by show 0 < _; omega, by show 0 < _; omega, by show 0 < _; omega, by show 0 < _; omega, hg, hd⟩
theorem sackK_built {c n : Nat} {gs : List (Nat × Nat)} {du : List Nat} (h1 : gs.length ≤ 100) (h2 : du.length ≤ 100) (h3 : apartB 1 gs = true) : (buildC (sackK c n gs du)).2 = 0 := by
  have hv : (valueL (sackK c n gs du)).length = 8 + 4 + 4 * gs.length + 4 * du.length := by
    have e : valueL (sackK c n gs du) = (be32 c ++ be32 n) ++ (be16 gs.length ++ be16 du.length ++ gapsL gs ++ dupsL du) ++ [] ++ [] := rfl
    rw [e]
    simp only [List.length_append, be32_length, be16_length, gapsL_length, dupsL_length, List.length_nil]
    omega
  have hf : formedB (sackK c n gs du) = true := by
    have e : formedB (sackK c n gs du) = (decide ((gs.length : Int) ≤ 100) && decide ((du.length : Int) ≤ 100) && true && apartB 1 gs) := rfl
    rw [e, h3, decide_eq_true (by omega), decide_eq_true (by omega)]
    rfl
  have hb : (buildB (sackK c n gs du).items).2 = 0 := by show (buildB []).2 = 0; decide
  rw [buildC_of hb hf (by omega)]
theorem rowN_of_rowE {w : World} {v : Value} {l : List UInt32} (h : RowE enc32 w v l) : RowN w v (l.map (·.toNat)) := by
  obtain ⟨A, cap, rfl, h1, h2, h3⟩ := h
  refine ⟨A, cap, by rw [List.length_map], by rw [List.length_map]; exact h1, h2, fun hl => ?_⟩
  rw [List.length_map] at hl
  obtain ⟨b, off, rfl, hb, hc⟩ := h3 hl
  refine ⟨b, off, rfl, hb, fun j hj => ?_⟩
  rw [List.length_map] at hj
  rw [hc j hj, getElem!_pos (l.map (·.toNat)) j (by rw [List.length_map]; exact hj), List.getElem_map, ← getElem!_pos l j hj]
  rfl
theorem cellsT_one (c n : Int) (A A' : Option Addr) (l k l' k' : Nat) : (#[.int .i64 3, .int .i64 0, .int .u32 c, .int .u32 0, .int .u32 n, .int .u32 0, .int .u16 0, .int .u16 0, .int .u16 0, .int .u16 0, .slice A l k, .slice A' l' k', .slice none 0 0, .string ⟨#[]⟩] : Array Value).all (·.oneCell') = true := by simp [Value.oneCell']
/-- Where the law stands: the got, the chunk and what is left lie in boxes, the gaps of both sides and the numbers in rows. -/
structure TeS (w : World) (g0 g2 g3 : Nat) (c n : Nat) (ab du : List UInt32) (gs : List (Nat × Nat)) (va vd vg vdd vaa vr : Value) (V : World) : Prop where
  q0 : Bx V g0 25 #[.int .u32 (c : Int), va, vd]
  qc : Bx V g2 44 #[.int .i64 3, .int .i64 0, .int .u32 (c : Int), .int .u32 0, .int .u32 (n : Int), .int .u32 0, .int .u16 0, .int .u16 0, .int .u16 0, .int .u16 0, vg, vdd, .slice none 0 0, .string ⟨#[]⟩]
  qh : Bx V g3 25 #[.int .u32 (c : Int), vaa, .slice none 0 0]
  ra : RowE enc32 V va ab
  rd : RowE enc32 V vd du
  rdd : RowE enc32 V vdd du
  raa : RowE enc32 V vaa ab
  rg : RowG V vg gs
  rr : RowG V vr gs
  below : Below w.heap.size w V
theorem TeS.later {w : World} {g0 g2 g3 c n : Nat} {ab du : List UInt32} {gs : List (Nat × Nat)} {va vd vg vdd vaa vr : Value} {V V' : World} (h : TeS w g0 g2 g3 c n ab du gs va vd vg vdd vaa vr V) (hb : Below V.heap.size V V') : TeS w g0 g2 g3 c n ab du gs va vd vg vdd vaa vr V' :=
  ⟨h.q0.later hb, h.qc.later hb, h.qh.later hb, h.ra.below hb, h.rd.below hb, h.rdd.below hb, h.raa.below hb, h.rg.below hb, h.rr.below hb, h.below.trans (hb.mono h.below.size)⟩
theorem TeS.drew {w : World} {g0 g2 g3 c n : Nat} {ab du : List UInt32} {gs : List (Nat × Nat)} {va vd vg vdd vaa vr : Value} {V : World} (h : TeS w g0 g2 g3 c n ab du gs va vd vg vdd vaa vr V) : TeS w g0 g2 g3 c n ab du gs va vd vg vdd vaa vr V.drew :=
  ⟨h.q0.drew, h.qc.drew, h.qh.drew, h.ra, h.rd, h.rdd, h.raa, h.rg, h.rr, below_drawn h.below⟩
end Go.Proofs.Ytfdnphkdpmlbnaa
