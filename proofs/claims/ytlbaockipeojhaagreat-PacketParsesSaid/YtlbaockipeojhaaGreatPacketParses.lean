/-
  Statement PacketParses (chapter 8): the packet of bytes, or what is wrong with them, is as the chapter says.
-/
import Derived.Test.YtlbaockipeojhaaGreatLift
import Derived.Test.YtlbaockipeojhaaGreatPkShown
import Derived.Test.YtlbaockipeojhaaGreatR9V
import Derived.Test.YtlbaockipeojhaaGreatPSame
import Derived.Test.YtlbaockipeojhaaGreatCkRows
namespace Go.Proofs.YtlbaockipeojhaaGreat.packetParses
open Go.ChangeShapes Go.WideShapes Go.ChangeAt Go.RowKit
set_option linter.unusedVariables false

set_option linter.unusedSimpArgs false
set_option maxRecDepth 100000
theorem parseP_fine (s : ByteArray) : (∀ c ∈ (parseP s).1.l, FitC c) ∧ (parseP s).1.l.length ≤ s.size := by
  have h0 : (∀ c ∈ zeroP.l, FitC c) ∧ zeroP.l.length ≤ s.size := ⟨fun c hc => (by simp [zeroP] at hc), Nat.zero_le _⟩
  have hf := walkC_fine s.size [] (cutB s 12) (by simp)
  have hl := walkC_len s.size [] (cutB s 12)
  rw [cut_size, List.length_nil] at hl
  unfold parseP
  repeat' split
  all_goals first
    | exact h0
    | exact ⟨fun c hc => fit_ok (hf c hc).1 (hf c hc).2, by show (walkC s.size [] (cutB s 12)).1.length ≤ _; omega⟩
/-- The packets that were read, in their boxes. -/
structure LpS (f t g : Nat) (b4 b6 : Nat) (A4 A6 : Option Addr) (k4 k6 : Nat) (l4 l6 : List Cv) (w W : World) : Prop where
  c4 : W.heap[b4]? = some (.cells #[.int .u16 (f : Int), .int .u16 (t : Int), .int .u32 (g : Int), .slice A4 l4.length k4] 26 (0, 0))
  c6 : W.heap[b6]? = some (.cells #[.int .u16 (f : Int), .int .u16 (t : Int), .int .u32 (g : Int), .slice A6 l6.length k6] 35 (0, 0))
  r4 : Rk W (.slice A4 l4.length k4) l4
  r6 : Rk W (.slice A6 l6.length k6) l6
  below : Below w.heap.size w W
theorem LpS.later {f t g b4 b6 : Nat} {A4 A6 : Option Addr} {k4 k6 : Nat} {l4 l6 : List Cv} {w W W' : World} (h : LpS f t g b4 b6 A4 A6 k4 k6 l4 l6 w W) (hb : Below W.heap.size W W') : LpS f t g b4 b6 A4 A6 k4 k6 l4 l6 w W' :=
  ⟨(hb.block _ (Array.getElem?_eq_some_iff.1 h.c4).1).trans h.c4, (hb.block _ (Array.getElem?_eq_some_iff.1 h.c6).1).trans h.c6, h.r4.below hb, h.r6.below hb, h.below.trans (hb.mono h.below.size)⟩
theorem range_row {b : Nat} {CA : Array Value} {T : TypeId} {W : World} (h : W.heap[b]? = some (.cells CA T (0, 0))) : W.rangeAt b 0 CA.toList := by
  intro j v hj
  rw [Nat.zero_add, cell_in h]
  simpa using hj
set_option maxHeartbeats 16000000 in
theorem walk (s : ByteArray) (w : World) : Calls Tryz.prog 4 #[.string s] w fun e w' => e = .returned (.bool true) ∧ Below w.heap.size w w' := by
  by_cases hs : 2000 < s.size
  · have y0 : decide ((2000 : Int) < (s.size : Int)) = true := decide_eq_true (by omega)
    clear hs
    go_enter Tryz.func4, Tryz.ntmps4
    go_wp2_with fail
    refine (shown_any _).mono ?_
    rintro _ w1 ⟨rfl, hb1⟩
    have HB1 := Lib.hid hb1
    clear hb1
    go_wp2_with fail
    go_ret
    exact ⟨rfl, HB1.out⟩
  have y0 : decide ((2000 : Int) < (s.size : Int)) = false := decide_eq_false (by omega)
  have HPP := Lib.hid (fun W => pparse_any s (by omega) W)
  have HPR := Lib.hid (fun W => rparse8_any s (by omega) W)
  have hpf := parseP_fine s
  generalize (parseP s).1.f = f at *
  generalize (parseP s).1.t = t at *
  generalize (parseP s).1.g = g at *
  generalize (parseP s).2 = e0 at *
  generalize (parseP s).1.l = L at *
  have HFT := Lib.hid hpf.1
  have HLN := Lib.hid (show L.length ≤ 100000 from by have := hpf.2; omega)
  have HS1 := Lib.hid pk8Size
  have HS2 := Lib.hid pkSize
  clear hpf hs
  go_enter Tryz.func4, Tryz.ntmps4
  go_wp2_with fail
  refine (shown_any _).mono ?_
  rintro _ w1 ⟨rfl, hb1⟩
  have HB1 := Lib.hid hb1
  clear hb1
  go_wp2_with fail
  refine (HPP.out _).mono ?_
  rintro _ w2 ⟨V4, l4, rfl, hk4, hc4, hb2⟩
  obtain ⟨A4, k4, rfl, -⟩ := hk4.slice
  have HB2 := Lib.hid (HB1.out.trans (hb2.mono HB1.out.size))
  have HK4 := Lib.hid (hk4.below ((Below.refl _ _).alloc (Nat.le_refl _) (.cells #[.int .u16 (f : Int), .int .u16 (t : Int), .int .u32 (g : Int), .slice A4 l4.length k4] 26)))
  have HC4 := Lib.hid hc4
  have HX4 := Lib.hid (heap_alloc_new w2 (.cells #[.int .u16 (f : Int), .int .u16 (t : Int), .int .u32 (g : Int), .slice A4 l4.length k4] 26))
  have HB3 := Lib.hid (HB2.out.alloc HB2.out.size (.cells #[.int .u16 (f : Int), .int .u16 (t : Int), .int .u32 (g : Int), .slice A4 l4.length k4] 26))
  clear hk4 hc4 hb2 HB1 HPP
  dsimp only [cellsP] at *
  go_wp2_with fail
  refine (HPR.out _).mono ?_
  rintro _ w3 ⟨V6, l6, rfl, hk6, hc6, hb3⟩
  obtain ⟨A6, k6, rfl, -⟩ := hk6.slice
  have HS := Lib.hid (show LpS f t g w2.heap.size w3.heap.size A4 A6 k4 k6 l4 l6 w (w3.alloc (.cells #[.int .u16 (f : Int), .int .u16 (t : Int), .int .u32 (g : Int), .slice A6 l6.length k6] 35)) from
    ⟨(Below.heap_alloc w3 (.cells #[.int .u16 (f : Int), .int .u16 (t : Int), .int .u32 (g : Int), .slice A6 l6.length k6] 35) _ (Array.getElem?_eq_some_iff.1 ((hb3.block _ (Array.getElem?_eq_some_iff.1 HX4.out).1).trans HX4.out)).1).trans ((hb3.block _ (Array.getElem?_eq_some_iff.1 HX4.out).1).trans HX4.out), heap_alloc_new w3 _, (HK4.out.below hb3).below ((Below.refl _ _).alloc (Nat.le_refl _) _), hk6.below ((Below.refl _ _).alloc (Nat.le_refl _) _), (HB3.out.trans (hb3.mono HB3.out.size)).alloc (Nat.le_trans HB3.out.size hb3.size) _⟩)
  have HC6 := Lib.hid hc6
  clear hk6 hc6 hb3 HB3 HX4 HK4 HB2 HPR
  dsimp only [cellsP] at *
  go_wp2_with fail
  refine wp_region_noPanic ?_
  refine wp_region_held_drew (S := (LpS f t g w2.heap.size w3.heap.size A4 A6 k4 k6 l4 l6 w)) (by kernel_rfl) ?_ (fun hHeld => ?_)
  · exact HS.out.later (Below.refl _ _).drew
  refine k7 0 _ (y := yieldsIf_load_mid (by rfl) 26 (.tmp 4) rfl w2.heap.size 0 (by rfl) _ _ (fun W h => range_row h.c4) Tryz.underlying26 rfl HS2.out) (h := ?_)
  try simp only [Act.put, p9a, p9z, p9s]
  refine k7 2 _ (y := yieldsIf_load_mid (by rfl) 35 (.tmp 6) rfl w3.heap.size 0 (by rfl) _ _ (fun W h => range_row h.c6) Tryz.underlying35 rfl HS1.out) (h := ?_)
  try simp only [Act.put, p9a, p9z, p9s]
  refine wpAnyH_ready (rs := [1]) (by kernel_rfl) (by simp) ?_
  refine AllReadyH.cons (by simp only [q9a, q9s, q9z]; rfl) (fun K hK => ?_) AllReadyH.nil
  go_simp
  refine (ref_any f t g _ l4 (by have := HLN.out; rw [← HC4.out, ckV_length] at this; exact this) (fun x hx => (HFT.out x.c (by rw [← HC4.out]; exact List.mem_map_of_mem hx)).il) _ hHeld.r4).mono ?_
  rintro _ wB ⟨VB, lB, rfl, hkB, hcB, hbB⟩
  obtain ⟨AB, kB, rfl, -⟩ := hkB.slice
  have hS := hHeld.later hbB
  have HKB := Lib.hid hkB
  have HCB := Lib.hid hcB
  clear hHeld hbB hkB hcB
  dsimp only [cellsP] at *
  go_wp2_with fail
  refine hK.out _ _ ?_ (fun hHeld => ?_)
  · exact hS
  clear hK K
  try simp only [Act.put, p9a, p9z, p9s]
  refine wpAnyH_ready (rs := [3]) (by kernel_rfl) (by simp) ?_
  refine AllReadyH.cons (by simp only [q9a, q9s, q9z]; rfl) (fun K hK => ?_) AllReadyH.nil
  go_simp
  refine (psame_any f t g _ _ lB l6 (by have := HLN.out; rw [← HC4.out, ← HCB.out, ckV_length] at this; exact this) (by rw [HCB.out, HC4.out, HC6.out]) (fun x hx => by
    have h := HFT.out x.c (by rw [← HC4.out, ← HCB.out]; exact List.mem_map_of_mem hx)
    exact ⟨by have := h.gl; omega, by have := h.dl; omega, h.il⟩) _ HKB.out hHeld.r6).mono ?_
  rintro _ wC ⟨rfl, hbC⟩
  have hS := hHeld.later hbC
  clear hHeld hbC
  go_wp2_with fail
  refine hK.out _ _ ?_ (fun hHeld => ?_)
  · exact hS
  clear hK K
  try simp only [Act.put, p9a, p9z, p9s]
  refine k9 4 ?_ (y := ?_) (h := ?_)
  rotate_left 1
  · (intro w' hSw; clear hSw; go_simp; try with_reducible rfl)
  try simp only [Act.put, p9a, p9z, p9s]
  refine k9 5 ?_ (y := ?_) (h := ?_)
  rotate_left 1
  · (intro w' hSw; clear hSw; go_simp; try with_reducible rfl)
  try simp only [Act.put, p9a, p9z, p9s]
  refine k9 6 ?_ (y := ?_) (h := ?_)
  rotate_left 1
  · (intro w' hSw; clear hSw; go_simp; try with_reducible rfl)
  try simp only [Act.put, p9a, p9z, p9s]
  refine k9 7 ?_ (y := ?_) (h := ?_)
  rotate_left 1
  · (intro w' hSw; clear hSw; go_simp; try with_reducible rfl)
  try simp only [Act.put, p9a, p9z, p9s]
  refine k9 8 ?_ (y := ?_) (h := ?_)
  rotate_left 1
  · (intro w' hSw; clear hSw; go_simp; try with_reducible rfl)
  try simp only [Act.put, p9a, p9z, p9s]
  refine k9 9 ?_ (y := ?_) (h := ?_)
  rotate_left 1
  · (intro w' hSw; clear hSw; go_simp; try with_reducible rfl)
  try simp only [Act.put, p9a, p9z, p9s]
  refine wpAnyH_done (by kernel_rfl) ?_ _
  refine NoPanic.normal ?_
  have HE := Lib.hid hHeld.below
  clear hHeld
  go_wp2_with fail
  go_ret
  exact ⟨by simp, HE.out⟩

set_option maxRecDepth 100000 in
theorem lifted (os : Os) (started : os.Started) (H : Type) (enc : TypeId × Value → H) :
    ReturnsInHanded {} Tryz.checked os 4 .any (Rows.packetParsesSpec.pre6 enc Tryz.prog Tryz.f4 Rows.packetParsesRow.domain false) (Rows.packetParsesSpec.post enc Tryz.prog Tryz.f4 false true false false) := by
  refine returnsInHanded_of_change_sized (C := Tryz.checked) own started (by kernel_rfl) Tryz.func4
    (ChangeSpec.witness6 (enc := enc) (C := Tryz.checked) false ⟨#[], #[.string ⟨#[]⟩], []⟩ 8 (by kernel_rfl) (by kernel_rfl) (by kernel_rfl) (by kernel_rfl)) ?_
  intro W base args ds gs before hval0 hW _ hreach _
  have hval : ∀ (j : Nat) t v, Tryz.f4.params[j]? = some t → args[j]? = some v → Value.okWide Tryz.prog W .any base t v := hval0
  obtain ⟨p, q, hA0, _, _, _, _⟩ := id hW
  have hA : DataW.TrodAll enc Tryz.prog W 0 (fun _ => true) true Tryz.f4.params.toList args.toList ds p := hA0
  rw [Tryz.params4] at hA hval
  obtain ⟨v0, vs0, d0, ds0, p0, q0, hargs, rfl, rfl, h0, r0⟩ := trodAll_cons hA
  obtain ⟨rfl, rfl, rfl⟩ := trodAll_nil r0
  obtain rfl : args = #[v0] := by cases args; simp_all
  obtain ⟨a0, rfl, rfl, rfl, w0⟩ := Go.ChangeMaps.open_string Tryz.underlying9 (hval 0 9 v0 rfl rfl) h0
  refine (walk a0 W).mono fun e W' ⟨he, hg⟩ => ?_
  subst he
  exact ⟨_, rfl, law_post laidOut Tryz.underlying4 (by kernel_rfl) (by kernel_rfl) rfl hW (by simp [Rows.packetParsesSpec]) hg⟩

theorem proved : Rows.PacketParsesSaid :=
  OpenClaim.holds_of_wide 4 Tryz.f4 rfl rfl rfl rfl rfl rfl rfl ⟨rfl, rfl, rfl, rfl, rfl⟩ rfl rfl rfl rfl rfl (by kernel_rfl) Tryz.func4 (by kernel_rfl)
    (of_decide_eq_true (by kernel_rfl)) (by unfold Func.isWrapper; first | (rw [if_pos (by decide +kernel)]; kernel_rfl) | (rw [if_neg (by decide +kernel)]; exact ⟨rfl, rfl⟩))
    (fun os started H enc _ => lifted os started H enc)
#print axioms proved
end Go.Proofs.YtlbaockipeojhaaGreat.packetParses
