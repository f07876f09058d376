/-
  The first bytes of a packet, and a packet with a chunk less: plain facts.
-/
import Derived.Test.YtlbaockipeojhaaPkBuild
namespace Go.Proofs.Ytlbaockipeojhaa
open Go.RowKit
set_option linter.unusedVariables false
set_option linter.unusedSimpArgs false
set_option maxRecDepth 100000

theorem front_right {l : List Ck} (h : rightC l = true) (k : Nat) : rightC (l.take k) = true := by
  rw [rightC_true] at h ⊢
  exact fun c hc => h c (List.mem_of_mem_take hc)
theorem joinC_take_size (l : List Ck) (k : Nat) : (joinC (l.take k)).size ≤ (joinC l).size := by
  have h := joinC_front (l.take k) (l.drop k)
  rw [List.take_append_drop] at h
  rw [h, ByteArray.size_append]
  omega
theorem types_take (l : List Ck) (k : Nat) : (l.take k).map (·.type) = (l.map (·.type)).take k := by rw [List.map_take]
/-- A packet with fewer chunks. -/
theorem fewer {f t g : Nat} {l : List Ck} (h : (buildP ⟨f, t, g, l⟩).2 = 0) {k : Nat} (hk : 0 < k) (hl : k ≤ l.length) : (buildP ⟨f, t, g, l.take k⟩).2 = 0 ∧ (buildP ⟨f, t, g, l.take k⟩).1 = sealed (headB f t g ++ joinC (l.take k)) := by
  obtain ⟨h1, h2, h3, h4⟩ := buildP_ok h
  have h5 := packB_size ⟨f, t, g, l⟩
  have h6 := packB_size ⟨f, t, g, l.take k⟩
  have h7 := joinC_take_size l k
  dsimp only at h5 h6
  have e : (Pk.types ⟨f, t, g, l.take k⟩) = (Pk.types ⟨f, t, g, l⟩).take k := types_take l k
  have hf : formedP f t g (Pk.types ⟨f, t, g, l.take k⟩) = true := by
    rw [e]
    exact formed_front h1 hk (by unfold Pk.types; rw [List.length_map]; exact hl)
  have := buildP_of (p := ⟨f, t, g, l.take k⟩) hf (front_right h2 k) (by omega)
  rw [this]
  exact ⟨rfl, rfl⟩
theorem sealed_rest {a b : ByteArray} (h : a.size = 12) : (sealed (a ++ b)).data.toList.drop 12 = b.data.toList := by
  have h12 : 12 ≤ (a ++ b).size := by rw [ByteArray.size_append]; omega
  rw [sealed_list _ h12, sealL_drop (by rw [← size_list]; exact h12), ByteArray.data_append, Array.toList_append]
  rw [List.drop_append_of_le_length (by rw [← size_list]; omega), List.drop_of_length_le (by rw [← size_list]; omega), List.nil_append]
theorem take_both (a b : List UInt8) {n : Nat} (h : n = a.length) : a.take n = (a ++ b).take n := by
  subst h
  simp
/-- What the statement asks of a packet that is built. -/
theorem heads_facts {f t g : Nat} {l : List Cv} (hf : f < 65536) (ht : t < 65536) (hg : g < 4294967296) (hw : ∀ x ∈ l, WfC x.c) (h : (buildP ⟨f, t, g, ckV l⟩).2 = 0) :
    ∃ S : ByteArray, (buildP ⟨f, t, g, ckV l⟩).1 = S ∧ 0 < l.length ∧ l.length ≤ 50 ∧ 12 ≤ S.size ∧ S.size ≤ 1500 ∧ byteAt S.data.toList 0 * 256 + byteAt S.data.toList 1 = f ∧ byteAt S.data.toList 2 * 256 + byteAt S.data.toList 3 = t ∧
      ((byteAt S.data.toList 4 * 256 + byteAt S.data.toList 5) * 256 + byteAt S.data.toList 6) * 256 + byteAt S.data.toList 7 = g ∧ checked S = 0 ∧
      ∃ (T : ByteArray) (e : Nat), buildP ⟨f, t, g, ckV (l.take (l.length - 1))⟩ = (T, e) ∧ (e = 0 ↔ 0 < l.length - 1) ∧
        (∀ x, l[l.length - 1]? = some x → e = 0 → 12 ≤ T.size ∧ T.size + (buildC x.c).1.size = S.size ∧ T.extract 12 T.size = S.extract 12 T.size) := by
  obtain ⟨h1, h2, h3, h4⟩ := buildP_ok h
  have h5 := packB_size ⟨f, t, g, ckV l⟩
  have h12 : 12 ≤ (packB ⟨f, t, g, ckV l⟩).size := by omega
  have hlen : (Pk.types ⟨f, t, g, ckV l⟩).length = l.length := by unfold Pk.types; simp [ckV]
  obtain ⟨_, _, m1, m2, _⟩ := formed_means.1 h1
  rw [hlen] at m1 m2
  have hs := sealed_size _ h12
  have hk := sealed_take h12
  obtain ⟨n1, n2, n3⟩ := pack_nums (p := ⟨f, t, g, ckV l⟩) ⟨hf, ht, hg, fun c hc => by
    obtain ⟨x, hx, rfl⟩ := List.mem_map.1 hc
    exact hw x hx⟩
  have e1 := (num_front hk (i := 0) (by omega)).trans n1
  have e2 := (num_front hk (i := 2) (by omega)).trans n2
  have e3 := (num4_front hk (i := 4) (by omega)).trans n3
  refine ⟨_, h4, m1, m2, by omega, by omega, ?_, ?_, ?_, checked_sealed _ h12, ?_⟩
  · unfold num at e1; exact e1
  · unfold num at e2; exact e2
  · unfold num4 num at e3
    simp only [Nat.reduceAdd] at e3
    have b4 := byteAt_lt (sealed (packB ⟨f, t, g, ckV l⟩)).data.toList 4
    have b5 := byteAt_lt (sealed (packB ⟨f, t, g, ckV l⟩)).data.toList 5
    show _ = g
    omega
  · have hct : ckV (l.take (l.length - 1)) = (ckV l).take (l.length - 1) := by unfold ckV; rw [List.map_take]
    refine ⟨(buildP ⟨f, t, g, ckV (l.take (l.length - 1))⟩).1, (buildP ⟨f, t, g, ckV (l.take (l.length - 1))⟩).2, rfl, ?_, ?_⟩
    · constructor
      · intro he
        obtain ⟨q1, _⟩ := buildP_ok he
        have := (formed_means.1 q1).2.2.1
        have e : (Pk.types ⟨f, t, g, ckV (l.take (l.length - 1))⟩).length = (l.take (l.length - 1)).length := by unfold Pk.types; simp [ckV]
        rw [e, List.length_take] at this
        omega
      · intro hn
        rw [hct]
        exact (fewer h hn (by simp [ckV])).1
    · intro x hx he
      have hn : 0 < l.length - 1 := by
        obtain ⟨q1, _⟩ := buildP_ok he
        have := (formed_means.1 q1).2.2.1
        have e : (Pk.types ⟨f, t, g, ckV (l.take (l.length - 1))⟩).length = (l.take (l.length - 1)).length := by unfold Pk.types; simp [ckV]
        rw [e, List.length_take] at this
        omega
      have hT := (fewer h hn (by simp [ckV])).2
      rw [hct, hT]
      have hsp : ckV l = (ckV l).take (l.length - 1) ++ [x.c] := by
        have hlt : l.length - 1 < l.length := by omega
        have hx' : l[l.length - 1]'hlt = x := Option.some.inj ((List.getElem?_eq_getElem hlt).symm.trans hx)
        have h0 := List.take_append_drop (l.length - 1) (ckV l)
        have h1' : (ckV l).drop (l.length - 1) = [x.c] := by
          rw [List.drop_eq_getElem_cons (by simpa [ckV] using hlt), List.drop_of_length_le (by simp [ckV]; omega)]
          simp [ckV, hx']
        rw [h1'] at h0
        exact h0.symm
      have hj : joinC (ckV l) = joinC ((ckV l).take (l.length - 1)) ++ (buildC x.c).1 := by
        conv => lhs; rw [hsp]
        exact joinC_snoc _ _
      have z12 : (headB f t g).size = 12 := rfl
      have hq12 : 12 ≤ (headB f t g ++ joinC ((ckV l).take (l.length - 1))).size := by rw [ByteArray.size_append]; omega
      have hts := sealed_size _ hq12
      have hps : (packB ⟨f, t, g, ckV l⟩).size = 12 + (joinC ((ckV l).take (l.length - 1))).size + (buildC x.c).1.size := by
        rw [h5]
        dsimp only
        rw [hj, ByteArray.size_append]
        omega
      rw [ByteArray.size_append] at hts
      refine ⟨by omega, by omega, ?_⟩
      apply bytes_ext
      rw [cut_list, cut_list, sealed_rest z12]
      have : (sealed (packB ⟨f, t, g, ckV l⟩)).data.toList.drop 12 = (joinC (ckV l)).data.toList := sealed_rest z12
      rw [this, hj, ByteArray.data_append, Array.toList_append, hts, z12]
      exact take_both _ _ (by rw [← size_list]; omega)
end Go.Proofs.Ytlbaockipeojhaa
