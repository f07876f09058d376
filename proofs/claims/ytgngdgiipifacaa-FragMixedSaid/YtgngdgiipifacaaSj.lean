/-
  Package frag: Cut, and the document's, and texts that are the same: contracts.
-/
import Derived.Test.YtgngdgiipifacaaSi
import Derived.Test.YtgngdgiipifacaaSh
namespace Go.Proofs.Ytgngdgiipifacaa
open Go.RowKit
set_option linter.unusedVariables false
set_option linter.unusedSimpArgs false
set_option maxRecDepth 100000

def encS (s : ByteArray) : Value := .string s
theorem infoSTZ : (Try.prog.info? 9).map (fun i => (i.zero, i.size, i.bytes)) = some (some (.string ⟨#[]⟩), 1, 16) := by kernel_rfl
theorem one_str (s : ByteArray) : ∀ u ∈ ([.string s] : List Value), u.oneCell' = true := by
  intro u hu
  rw [List.mem_singleton.1 hu]; rfl
theorem rowS_of_ownG {w : World} {base n : Nat} {e : TypeId} {v : Value} {l : List ByteArray} (h : OwnG w base e 1 v n (l.map encS)) : RowE encS w v l := by
  have hl : l.length = n := by have := h.1; simpa using this
  subst hl
  rcases h.2 with ⟨rfl, h0⟩ | ⟨g, cap, cur, fz, rfl, hb, hh, h1, h2, _⟩
  · exact ⟨none, 0, by rw [h0], by omega, Nat.zero_le _, fun hp => by omega⟩
  · refine ⟨_, cap, rfl, h1, h2, fun _ => ⟨g, 0, rfl, (Array.getElem?_eq_some_iff.1 hh).1, fun j hj => ?_⟩⟩
    rw [Nat.zero_add]
    refine h.cells _ _ ?_
    rw [List.getElem?_map, List.getElem?_eq_getElem hj, getElem!_pos l j hj]
    rfl
theorem rowS_nil (w : World) : RowE encS w (.slice none 0 0) [] := ⟨none, 0, rfl, Nat.le_refl _, Nat.zero_le _, fun h => absurd h (by simp)⟩
/-- What Cut tells. -/
def badM (s : ByteArray) (m : Int) : Bool := decide (s.size = 0) || decide (m < 1) || decide (1000 < m)
def cutP (s : ByteArray) (m : Int) : List ByteArray × Int := if badM s m then ([], 1) else if 20000 < s.size then ([], 4) else (cutL s m.toNat, 0)
def CutR (w w' : World) (e : Ending) (l : List ByteArray) (k : Int) : Prop := ∃ A c, e = .returned (.tuple #[.slice A l.length c, .int .i64 k]) ∧ RowE encS w' (.slice A l.length c) l ∧ Below w.heap.size w w'
set_option maxHeartbeats 2000000 in
theorem cut_good (s : ByteArray) (m : Nat) (h0 : 0 < s.size) (h1 : s.size ≤ 20000) (h2 : 1 ≤ m) (h3 : m ≤ 1000) (w : World) :
    Calls Try.prog 10 #[.string s, .int .i64 (m : Int)] w fun e w' => CutR w w' e (cutL s m) 0 := by
  have hte : s.toList.isEmpty = false := empty_no h0
  have q1 : ¬ (m : Int) < 1 := by omega
  have q2 : ¬ (1000 : Int) < (m : Int) := by omega
  have q3 : ¬ (20000 : Int) < (s.size : Int) := by omega
  have q4 : (0 : Int) ≤ (m : Int) := by omega
  have q5 : (m : Int) ≤ 1000 := by omega
  obtain ⟨i0, hi0, hz0, hz1, hz2⟩ := info_parts infoSTZ
  have HI := Lib.hid hi0
  have HZ0 := Lib.hid hz0
  have HZ1 := Lib.hid hz1
  have HZ2 := Lib.hid hz2
  clear hi0 hz0 hz1 hz2
  have HCL := Lib.hid (cut_len (show 0 < m by omega) s)
  have hdm : s.size / m ≤ 20000 := Nat.le_trans (Nat.div_le_self _ _) h1
  go_enter Try.func10, Try.ntmps10
  go_wp2_with fail
  clear hte
  go_loopw [0, 6] (fun v0 v6 wr => ∃ (x : ByteArray) (acc : List ByteArray) (A : Option Addr) (c : Nat), v0 = .string x ∧ v6 = .slice A acc.length c ∧ x.size ≤ s.size ∧ Hid (acc ++ cutL x m = cutL s m) ∧ Hid (OwnG wr w.heap.size 9 1 (.slice A acc.length c) acc.length (acc.map encS)) ∧ Hid (Below w.heap.size w wr))
    (fun v0 _ _ => match v0 with | .string x => x.size | _ => 0)
  case atStart => exact ⟨s, [], none, 0, rfl, rfl, Nat.le_refl _, Lib.hid rfl, Lib.hid (OwnG.nil _ _ _ _), Lib.hid (Below.refl _ _)⟩
  case round =>
    obtain ⟨x, acc, A, c, rfl, rfl, hxs, HE, HO, HW⟩ := hrel
    have hws := HW.out.size
    have hal : acc.length ≤ 20001 := by
      have h9 := congrArg List.length HE.out
      rw [List.length_append] at h9
      have := HCL.out
      omega
    have hzI : (x.size : Int) ≤ 20000 := by omega
    by_cases hlt : m < x.size
    · have HE2 := Lib.hid (show (acc ++ [x.extract 0 m]) ++ cutL (x.extract m x.size) m = cutL s m by rw [← HE.out, cutL_step (by omega) hlt, List.append_assoc]; rfl)
      have p1 : (m : Int) < (x.size : Int) := by omega
      have HLN : Hid ((acc ++ [x.extract 0 m]).length = acc.length + 1) := Lib.hid (by simp)
      have HMP : Hid ((acc ++ [x.extract 0 m]).map encS = acc.map encS ++ [.string (x.extract 0 m)]) := Lib.hid (by rw [List.map_append]; rfl)
      have HSZ : Hid ((x.extract m x.size).size = x.size - m) := Lib.hid (ext_back x m)
      go_wp2_with (at_builtin; refine wpList_append_fed _ rfl (.tmp 26) (.tmp 30) 23 23 rfl w.heap.size 9 i0 _ 1 16 Try.underlying23 (.inr ⟨_, Try.underlying23⟩) HI.out HZ0.out HZ1.out HZ2.out rfl _ _ _ rfl (HO.out.alloc _) _ 1 [.string (x.extract 0 m)] rfl (Fed.block (heap_alloc_new _ _) rfl (one_str _)) (by unfold maxLen; omega) (by omega) (by rw [World.size_alloc]; omega) ?_; intro v8 w8 hown hgr; replace HW := Lib.hid (((HW.out.alloc (by omega) _).grown hgr (by rw [World.size_alloc]; omega) (fun z hz => by have := (HO.out.lt z hz).1; omega))); obtain ⟨A8, k8, rfl, -, -, -⟩ := id hown.slice; have HO8 := Lib.hid hown; clear hown hgr)
      go_roundw
      case rel => exact ⟨x.extract m x.size, acc ++ [x.extract 0 m], A8, k8, rfl, by rw [HLN.out], by rw [HSZ.out]; omega, HE2, by rw [HLN.out, HMP.out]; exact HO8, HW⟩
      case measure => (show (x.extract m x.size).size < x.size; rw [HSZ.out]; omega)
    · have p1 : ¬ (m : Int) < (x.size : Int) := by omega
      have HE2 : Hid (acc ++ [x] = cutL s m) := Lib.hid (by rw [← HE.out, cutL_last hlt])
      have HLN : Hid ((acc ++ [x]).length = acc.length + 1) := Lib.hid (by simp)
      have HMP : Hid ((acc ++ [x]).map encS = acc.map encS ++ [.string x]) := Lib.hid (by rw [List.map_append]; rfl)
      go_wp2_with (at_builtin; refine wpList_append_fed _ rfl (.tmp 35) (.tmp 37) 23 23 rfl w.heap.size 9 i0 _ 1 16 Try.underlying23 (.inr ⟨_, Try.underlying23⟩) HI.out HZ0.out HZ1.out HZ2.out rfl _ _ _ rfl (HO.out.alloc _) _ 1 [.string x] rfl (Fed.block (heap_alloc_new _ _) rfl (one_str _)) (by unfold maxLen; omega) (by omega) (by rw [World.size_alloc]; omega) ?_; intro v8 w8 hown hgr; replace HW := Lib.hid (((HW.out.alloc (by omega) _).grown hgr (by rw [World.size_alloc]; omega) (fun z hz => by have := (HO.out.lt z hz).1; omega))); obtain ⟨A8, k8, rfl, -, -, -⟩ := id hown.slice; have HO8 := Lib.hid hown; clear hown hgr)
      go_ret2
      exact ⟨A8, k8, by rw [← HE2.out, HLN.out]; rfl, by rw [← HE2.out, HLN.out]; exact rowS_of_ownG (by rw [HMP.out]; exact HO8.out), HW.out⟩
theorem cut_bad (s : ByteArray) (m : Int) (hb : badM s m = true) (w : World) : Calls Try.prog 10 #[.string s, .int .i64 m] w fun e w' => CutR w w' e [] 1 := by
  by_cases h0 : s.size = 0
  · have hte : s.toList.isEmpty = true := empty_yes h0
    go_enter Try.func10, Try.ntmps10
    go_wp2_with fail
    go_ret2
    exact ⟨none, 0, rfl, rowS_nil _, Below.refl _ _⟩
  · have hte : s.toList.isEmpty = false := empty_no (by omega)
    by_cases h1 : m < 1
    · clear hb
      go_enter Try.func10, Try.ntmps10
      go_wp2_with fail
      go_ret2
      exact ⟨none, 0, rfl, rowS_nil _, Below.refl _ _⟩
    · have h2 : 1000 < m := by unfold badM at hb; simp [h0, h1] at hb; exact hb
      clear hb
      go_enter Try.func10, Try.ntmps10
      go_wp2_with fail
      go_ret2
      exact ⟨none, 0, rfl, rowS_nil _, Below.refl _ _⟩
theorem cut_long (s : ByteArray) (m : Int) (hb : badM s m = false) (hs : 20000 < s.size) (w : World) : Calls Try.prog 10 #[.string s, .int .i64 m] w fun e w' => CutR w w' e [] 4 := by
  have hte : s.toList.isEmpty = false := empty_no (by omega)
  have q1 : ¬ m < 1 := by unfold badM at hb; simp at hb; omega
  have q2 : ¬ 1000 < m := by unfold badM at hb; simp at hb; omega
  have q3 : (20000 : Int) < (s.size : Int) := by omega
  clear hb hs
  go_enter Try.func10, Try.ntmps10
  go_wp2_with fail
  go_ret2
  exact ⟨none, 0, rfl, rowS_nil _, Below.refl _ _⟩
end Go.Proofs.Ytgngdgiipifacaa
