/-
  After any turns of keys what is built, and what is read of all that was built, is as the chapter says: any acts (12 at most, each with a key of at most 200 bytes and a state with a text of at most 300); others are not asked of.
-/
import Derived.Test.YthfiebdpoleeeaaDoorLift
import Derived.Test.YthfiebdpoleeeaaDoorSn9
import Derived.Test.YthfiebdpoleeeaaDoorLaid
import Derived.Test.YthfiebdpoleeeaaDoorCards
import Derived.Test.YthfiebdpoleeeaaDoorTie
import Derived.SevenTiedAt
import Derived.Test.YthfiebdpoleeeaaDoorRk9
import Derived.Test.YthfiebdpoleeeaaDoorRa9
import Derived.Test.YthfiebdpoleeeaaDoorAc9
import Derived.Deep.LoopGhost
import Derived.Maps.AppendAt
namespace Go.Proofs.YthfiebdpoleeeaaDoor.cookieTurns
open Go.ChangeShapes Go.WideShapes Go.ChangeAt Go.RowKit
set_option linter.unusedVariables false

theorem gate9 {P : Program} {ops : Array Oper} {l : List Oper} {a : Act} {w : World} {Q : Exit → Act → World → Prop} (h : wpList P ops Q l a w) : wpList P ops Q l a w := h
theorem infoStr : (Tryd.prog.info? 9).map (fun i => (i.zero, i.size, i.bytes)) = some (some (.string ⟨#[]⟩), 1, 16) := by kernel_rfl
theorem own_kept9 {W Y : World} {B n c : Nat} {v : Value} {xs : List Value} (h : W.ownsRow B 9 1 v n xs) (hg : W.grownBy Y (some c)) (hc : c < B) : Y.ownsRow B 9 1 v n xs := by
  refine h.kept hg ?_
  cases hv : v.ownBlock with
  | none => exact .inl rfl
  | some b => exact .inr (by have := h.lt b hv; intro e; injection e; omega)
/-- Where the rounds are: both keys, all that was built. -/
structure TuS (w W : World) (a b : Nat) (v : Value) (k1 k2 : Ky) (m : Nat) (A : List ByteArray) : Prop where
  pk : KyS W a k1
  rk : KyR W b k2 m
  own : W.ownsRow (b + 1) 9 1 v A.length (A.map Value.string)
  below : Below w.heap.size w W
  base : w.heap.size ≤ a
  lt : a < b
section
variable {w W Y : World} {a b m : Nat} {v : Value} {k1 k2 : Ky} {A : List ByteArray}
theorem TuS.later (h : TuS w W a b v k1 k2 m A) (hb : Below W.heap.size W Y) : TuS w Y a b v k1 k2 m A :=
  ⟨h.pk.later hb, h.rk.later hb, own_kept9 h.own (grownBy_of_below hb) (show a < b + 1 by have := h.lt; omega), h.below.trans (hb.mono h.below.size), h.base, h.lt⟩
theorem TuS.alloc (h : TuS w W a b v k1 k2 m A) (o : Obj) : TuS w (W.alloc o) a b v k1 k2 m A := h.later ((Below.refl _ _).alloc (Nat.le_refl _) _)
theorem TuS.turnA {k : Ky} (h : TuS w W a b v k1 k2 m A) (hg : W.grownBy Y (some a)) (hk : KyS Y a k) : TuS w Y a b v k k2 m A :=
  ⟨hk, (hg.block b h.rk.lt (by have := h.lt; simp; omega)).trans h.rk, own_kept9 h.own hg (by have := h.lt; omega), h.below.trans (below_of_grown hg h.below.size h.base), h.base, h.lt⟩
theorem TuS.turnB {k : Ky} {m' : Nat} (h : TuS w W a b v k1 k2 m A) (hg : W.grownBy Y (some b)) (hk : KyR Y b k m') : TuS w Y a b v k1 k m' A :=
  ⟨(hg.block a h.pk.lt (by have := h.lt; simp; omega)).trans h.pk, hk, own_kept9 h.own hg (by omega), h.below.trans (below_of_grown hg h.below.size (by have := h.base; have := h.lt; omega)), h.base, h.lt⟩
theorem TuS.more (h : TuS w W a b v k1 k2 m A) (x : ByteArray) {v' : Value} (hown : Y.ownsRow (b + 1) 9 1 v' (A.length + 1) (A.map Value.string ++ [.string x])) (hg : W.grownBy Y v.ownBlock) : TuS w Y a b v' k1 k2 m (A ++ [x]) := by
  have hlt := h.own.lt
  have h1 := h.lt
  have h2 := h.base
  refine ⟨(hg.block a h.pk.lt ?_).trans h.pk, (hg.block b h.rk.lt ?_).trans h.rk, ?_, h.below.grown hg h.below.size fun k hk => by have := hlt k hk; omega, h.base, h.lt⟩
  · intro e
    have := hlt a e.symm
    omega
  · intro e
    have := hlt b e.symm
    omega
  · have e : (A ++ [x]).map Value.string = A.map Value.string ++ [.string x] := by simp
    rw [e, List.length_append]
    exact hown
theorem TuS.form (h : TuS w W a b v k1 k2 m A) {L : Nat} (hL : A.length = L) (hp : 0 < L) : ∃ g cap, v = .slice (some ⟨g, 0, none⟩) L cap := by
  subst hL
  obtain ⟨g, cap, hv, _, _⟩ := own_form h.own hp
  exact ⟨g, cap, hv⟩
theorem TuS.at {g L cap : Nat} (h : TuS w W a b (.slice (some ⟨g, 0, none⟩) L cap) k1 k2 m A) (hL : A.length = L) {i : Nat} {x : ByteArray} (hx : A[i]? = some x) : W.cell? ⟨g, i, none⟩ = some (.string x) := by
  subst hL
  have hi : i < A.length := (List.getElem?_eq_some_iff.1 hx).1
  rw [h.own.cellAt i (by omega), List.getElem?_map, hx]
  rfl
end
/-- What is known of the keys, and of all that was built. -/
structure PlS (k : Ky) (m : Nat) (A : List ByteArray) (j q : Nat) : Prop where
  many : Many k m
  nk : k.nk.size ≤ 200
  ok : k.ok.size ≤ 200
  s0 : 0 ≤ k.since
  s1 : k.since ≤ (q : Int)
  q : q ≤ 70000 * j
  m : m ≤ j
  all : ∀ y ∈ A, y.size ≤ 400
  len : A.length ≤ j
theorem PlS.zero : PlS zeroKy 0 [] 0 0 := ⟨many_zero, by decide, by decide, by decide, by decide, by decide, by decide, by simp, by simp⟩
theorem PlS.turn {k : Ky} {m j q p : Nat} {A : List ByteArray} {key : ByteArray} (h : PlS k m A j q) (hp : p < 70000) (hk : key.size ≤ 200) : PlS (turnKy k key ((q : Int) + (p : Int))) (m + 1) A (j + 1) (q + p) :=
  ⟨many_turn h.many key _, hk, h.nk, by show (0 : Int) ≤ (q : Int) + (p : Int); omega, by show (q : Int) + (p : Int) ≤ ((q + p : Nat) : Int); omega, by have := h.q; omega, by have := h.m; omega, h.all, by have := h.len; omega⟩
theorem PlS.build {k : Ky} {m j q p : Nat} {A : List ByteArray} {y : ByteArray} (h : PlS k m A j q) (hp : p < 70000) (hy : y.size ≤ 400) : PlS k m (A ++ [y]) (j + 1) (q + p) :=
  ⟨h.many, h.nk, h.ok, h.s0, by have := h.s1; omega, by have := h.q; omega, by have := h.m; omega, fun z hz => by
    rcases List.mem_append.1 hz with hz | hz
    · exact h.all z hz
    · rw [List.mem_singleton.1 hz]; exact hy, by have := h.len; simp; omega⟩
theorem buildKy_size (k : Ky) {s : St} (h : (s.peer.size : Int) ≤ 300) : (buildKy k s).1.size ≤ 400 := by
  unfold buildKy buildK
  cases k.nt with
  | false => show (⟨#[]⟩ : ByteArray).size ≤ 400; decide
  | true =>
    rw [if_pos rfl]
    by_cases hr : rightS s = true
    · rw [if_pos hr]
      show (cookieB k.nk s).size ≤ 400
      rw [cookie_size]
      omega
    · rw [if_neg hr]
      show (⟨#[]⟩ : ByteArray).size ≤ 400
      decide
set_option maxHeartbeats 4000000 in
set_option maxRecDepth 100000 in
theorem walk (v : Value) (l : List ActV) (hv0 : ∀ x ∈ l, InA x) (w : World) (hv : RowA w v l) (hK : Kub w) :
    Calls Tryd.prog 4 #[v] w fun e w' => e = .returned (.bool true) ∧ Below w.heap.size w w' := by
  have HB := Lib.hid (Below.refl w.heap.size w)
  have HK := Lib.hid hK
  clear hK
  obtain ⟨Ad, cap0, rfl, hcap, hmax, hcells⟩ := hv
  have HC : Hid (∀ j, j < l.length → ∃ bl off x, Ad = some ⟨bl, off, none⟩ ∧ bl < w.heap.size ∧ w.rangeAt bl (off + j * 17) (ActV.cells x).toList ∧ InA x) := Lib.hid fun j hj => by
    obtain ⟨bl, off, e, hb, hc⟩ := hcells (by omega)
    exact ⟨bl, off, l[j], e, hb, hc j hj, hv0 _ (List.getElem_mem hj)⟩
  clear hcells hv0
  unfold maxLen at hmax
  generalize l.length = n at *
  by_cases hk : 12 < n
  · have hk' : (12 : Int) < (n : Int) := by omega
    clear hk
    go_enter Tryd.func4, Tryd.ntmps4
    go_wp2_with fail
    refine (shown_any _ HK.out).mono ?_
    rintro e w1 ⟨rfl, hb1⟩
    have HB1 := Lib.hid hb1
    clear hb1
    go_wp2_with fail
    go_ret
    exact ⟨rfl, HB1.out⟩
  have hk' : ¬ (12 : Int) < (n : Int) := by omega
  go_enter Tryd.func4, Tryd.ntmps4
  go_wp2_with fail
  refine (shown_any _ HK.out).mono ?_
  rintro e w1 ⟨rfl, hb1⟩
  have HT0 : Hid (TuS w ((w1.alloc (.cells #[.string ⟨#[]⟩, .bool false, .string ⟨#[]⟩, .bool false, .int .i64 0] 46)).alloc (.cells #[.string ⟨#[]⟩, .string ⟨#[]⟩, .int .i64 0, .int .i64 0] 49)) w1.heap.size (w1.heap.size + 1) (.slice none 0 0) zeroKy zeroKy 0 []) := Lib.hid
    ⟨(heap_alloc_old _ _ (by rw [World.size_alloc]; omega)).trans (heap_alloc_new w1 _), by
      have := heap_alloc_new (w1.alloc (.cells #[.string ⟨#[]⟩, .bool false, .string ⟨#[]⟩, .bool false, .int .i64 0] 46)) (.cells #[.string ⟨#[]⟩, .string ⟨#[]⟩, .int .i64 0, .int .i64 0] 49)
      rw [World.size_alloc] at this
      exact this, World.ownsRow_nil _ _ _ _, (hb1.alloc hb1.size _).alloc (by rw [World.size_alloc]; have := hb1.size; omega) _, hb1.size, by omega⟩
  clear hb1 HB
  go_wp2_with fail
  generalize w1.heap.size + 1 = b at *
  generalize w1.heap.size = a at *
  generalize World.alloc (World.alloc w1 _) _ = W0 at *
  obtain ⟨i0, hi0, hz0, hz1, hz2⟩ := info_parts infoStr
  have HI0 := Lib.hid hi0
  have HZ0 := Lib.hid hz0
  have HZ1 := Lib.hid hz1
  have HZ2 := Lib.hid hz2
  clear hi0 hz0 hz1 hz2
  go_loopw [6, 7, 8] (fun v qv i wr => ∃ j q : Nat, j ≤ n ∧ i = .int .i64 (j : Int) ∧ qv = .int .i64 (q : Int) ∧ Hid (∃ k m A, TuS w wr a b v k k m A ∧ PlS k m A j q)) (fun _ _ i _ => n - (intOf i).toNat)
  case atStart => exact ⟨0, 0, by omega, rfl, rfl, Lib.hid ⟨zeroKy, 0, [], HT0.out, PlS.zero⟩⟩
  case round =>
    obtain ⟨j, q, hjn, rfl, rfl, HX⟩ := hrel
    clear HT0
    by_cases hlt : j < n
    · obtain ⟨k, m, A, hT, hP⟩ := HX.out
      obtain ⟨bl, off, x, rfl, hbl, hr, hin⟩ := HC.out j hlt
      have HL := Lib.hid (fun W (h : Below w.heap.size w W) => range_part (rangeAt_below9 hr hbl h))
      have HA := Lib.hid hin
      have HT := Lib.hid hT
      have HP := Lib.hid hP
      have HSZ := Lib.hid (sizeS x.s)
      have z0 : (0 : Int) ≤ (j : Int) := by omega
      have z1 : (j : Int) < (n : Int) := by omega
      have hq0 := hP.q
      clear HX hT hP hr hin hbl HC
      go_wp2_with ((with_reducible refine gate9 ?_); refine wpList_load_mid rfl 25 (.tmp 41) rfl bl (off + j * 17 + 3) rfl (cellsS x.s).toList _ (HL.out wr HT.out.below).2.2.2 Tryd.underlying25 rfl HSZ.out ?_)
      refine (short_any x.s _).mono ?_
      rintro e w2 ⟨rfl, hb2⟩
      have HT2 := Lib.hid (HT.out.later hb2)
      clear hb2 HT
      cases hsh : shortB x.s with
      | false =>
        clear hsh
        go_wp2_with fail
        go_ret
        exact ⟨rfl, HT2.out.below⟩
      | true =>
      have hp : (x.s.peer.size : Int) ≤ 300 := of_decide_eq_true hsh
      have hbz := buildKy_size k hp
      clear hsh hp
      have c2 := (HL.out w2 HT2.out.below).2.2.1
      by_cases hy : 200 < x.key.size
      · have hy' : (200 : Int) < (x.key.size : Int) := by omega
        clear hbz
        go_wp2_with fail
        go_ret
        exact ⟨rfl, HT2.out.below⟩
      have hy' : ¬ (200 : Int) < (x.key.size : Int) := by omega
      have c1 := (HL.out w2 HT2.out.below).2.1
      have c0 := (HL.out w2 HT2.out.below).1
      have HPN := Lib.hid (fun W => pick_any x.now HA.out.now 70000 (by decide) (by decide) 70000 (by decide) W)
      have HPO := Lib.hid (fun W => pick_any x.op HA.out.op 3 (by decide) (by decide) 3 (by decide) W)
      have hp : pickN x.now 70000 < 70000 := Nat.mod_lt _ (by decide)
      generalize pickN x.now 70000 = p at *
      generalize pickN x.op 3 = o at *
      have hzs : IntKind.i64.wrap ((q : Int) + (p : Int)) = (q : Int) + (p : Int) := by rw [IntKind.wrap_i64]; omega
      have hb9 : BoundN ((q : Int) + (p : Int)) := by unfold BoundN; omega
      have HBN := Lib.hid hb9
      have HBS : Hid (BoundN k.since) := Lib.hid (by have := HP.out.s0; have := HP.out.s1; unfold BoundN; omega)
      clear hb9
      have HQ := Lib.hid (show j + 1 ≤ n by omega)
      have HY := Lib.hid hy
      have HP9 := Lib.hid hp
      have HBZ := Lib.hid hbz
      have HMB := Lib.hid (show m < 1000000 by have := HP.out.m; omega)
      clear hy hp hbz hq0
      go_wp2_with fail
      refine (HPN.out _).mono ?_
      rintro e w3 ⟨rfl, rfl⟩
      go_wp2_with fail
      refine (HPO.out _).mono ?_
      rintro e w4 ⟨rfl, rfl⟩
      clear HPN HPO c0 c1
      by_cases ho : o = 0
      · subst ho
        have HTA := Lib.hid (turn_any a k x.key (by have := HY.out; omega) ((q : Int) + (p : Int)) w4 HT2.out.pk)
        go_wp2_with fail
        refine HTA.out.mono ?_
        rintro e w5 ⟨rfl, hY5, hg5⟩
        have HT5 := Lib.hid (HT2.out.turnA hg5 hY5)
        clear hY5 hg5 HTA HT2 c2
        have c2 := (HL.out w5 HT5.out.below).2.2.1
        have HTB := Lib.hid (rturn_any b m k x.key ((q : Int) + (p : Int)) HMB.out w5 HT5.out.rk)
        go_wp2_with fail
        refine HTB.out.mono ?_
        rintro e w6 ⟨rfl, hY6, hg6⟩
        have HT6 := Lib.hid (HT5.out.turnB hg6 hY6)
        clear hY6 hg6 HTB HT5 c2
        go_wp2_with fail
        go_roundw
        case rel => exact ⟨j + 1, q + p, HQ.out, by go_num, by go_num, Lib.hid ⟨_, m + 1, A, HT6.out, HP.out.turn HP9.out (by have := HY.out; omega)⟩⟩
        case measure => simp [intOf]; omega
      have ho' : ¬ (o : Int) = 0 := by omega
      have HKB := Lib.hid (fun W (h : Kub W) (hY : KyS W a k) => kbuild_any a k x.s HA.out.s.wf (by have := HP.out.nk; omega) W h hY)
      have HRB := Lib.hid (fun W (hY : KyR W b k m) => rkeybuild_any b m k HP.out.many x.s HA.out.s.wf (by have := HP.out.nk; omega) W hY)
      have HKR := Lib.hid (fun (C : ByteArray) (hC : C.size ≤ 400) W (h : Kub W) (hY : KyS W a k) => kread_any a k C ((q : Int) + (p : Int)) (by have := HP.out.nk; omega) (by have := HP.out.ok; omega) (by omega) (.inr ⟨HBN.out, HBS.out⟩) W h hY)
      have HRR := Lib.hid (fun (C : ByteArray) (hC : C.size ≤ 400) W (hY : KyR W b k m) => rkread_any b m k HP.out.many C ((q : Int) + (p : Int)) (by have := HP.out.nk; omega) (by have := HP.out.ok; omega) (by omega) ⟨HBN.out, HBS.out⟩ W hY)
      have HPB := Lib.hid (HP.out.build HP9.out HBZ.out)
      clear HBZ ho HBN HBS HP HP9 HY HMB c2
      generalize buildKy k x.s = r at *
      obtain ⟨C0, E0⟩ := r
      dsimp only at HKB HRB HPB
      go_wp2_with ((with_reducible refine gate9 ?_); refine wpList_load_mid rfl 25 (.tmp 91) rfl bl (off + j * 17 + 3) rfl (cellsS x.s).toList _ (HL.out w4 HT2.out.below).2.2.2 Tryd.underlying25 rfl HSZ.out ?_)
      refine (HKB.out _ (HK.out.later HT2.out.below) HT2.out.pk).mono ?_
      rintro e w5 ⟨rfl, hb5⟩
      have HT5 := Lib.hid (HT2.out.later hb5)
      clear hb5 HT2 HKB
      go_wp2_with ((with_reducible refine gate9 ?_); refine wpList_load_mid rfl 25 (.tmp 101) rfl bl (off + j * 17 + 3) rfl (cellsS x.s).toList _ (HL.out w5 HT5.out.below).2.2.2 Tryd.underlying25 rfl HSZ.out ?_)
      refine (as_any9 x.s _).mono ?_
      rintro e w6 ⟨rfl, hb6⟩
      have HT6 := Lib.hid (HT5.out.later hb6)
      clear hb6 HT5
      go_wp2_with fail
      refine (HRB.out _ HT6.out.rk).mono ?_
      rintro e w7 ⟨rfl, hb7⟩
      have HT7 := Lib.hid ((HT6.out.later hb7).alloc (.cells #[.string C0] 9))
      have hsz : b + 1 ≤ w7.heap.size := by have := (HT6.out.later hb7).rk.lt; omega
      clear hb7 HT6 HRB
      have HLA := Lib.hid HPB.out.len
      go_wp2_with (at_builtin; refine wpList_append_own _ rfl (.tmp 115) (.tmp 117) 50 rfl (b + 1) 9 i0 (.string ⟨#[]⟩) 1 16 Tryd.underlying50 HI0.out HZ0.out HZ1.out HZ2.out rfl (by decide) _ _ _ ?c0 HT7.out.own ⟨_, 0, none⟩ 1 1 [.string C0] rfl rfl ?c1 ?c2 ?c3 ?c4 ?c5 ?_)
      case c0 => rfl
      case c1 => exact new_cells w7 _ _
      case c2 => intro u hu; simp at hu; subst hu; rfl
      case c3 => have := HLA.out; simp at this; unfold maxLen; omega
      case c4 => have := HLA.out; simp at this; omega
      case c5 => simp; omega
      intro v8 w8 hown hgr _
      have HT8 := Lib.hid (HT7.out.more C0 hown hgr)
      clear hown hgr HT7 hsz HLA
      have HNE := Lib.hid (show 0 < (A ++ [C0]).length by simp)
      generalize A ++ [C0] = B at *
      obtain ⟨L, hL⟩ : ∃ L, B.length = L := ⟨_, rfl⟩
      obtain ⟨g, cap, rfl⟩ := HT8.out.form hL (by have := HNE.out; omega)
      have HLL := Lib.hid hL
      have hL9 : L ≤ 12 := by have := HPB.out.len; omega
      clear hL HNE
      go_wp2_with fail
      go_loopw [14] (fun i wr => ∃ y : Nat, y ≤ L ∧ i = .int .i64 (y : Int) ∧ Hid (TuS w wr a b (.slice (some ⟨g, 0, none⟩) L cap) k k m B)) (fun i _ => L - (intOf i).toNat)
      case atStart => exact ⟨0, by omega, rfl, HT8⟩
      case round =>
        obtain ⟨y, hyL, rfl, HTi⟩ := hrel
        clear HT8
        by_cases hyl : y < L
        · obtain ⟨C, hC⟩ : ∃ C, B[y]? = some C := by
            have h1 : y < B.length := by have := HLL.out; omega
            exact ⟨_, List.getElem?_eq_getElem h1⟩
          have hC4 : C.size ≤ 400 := HPB.out.all C (List.mem_of_getElem? hC)
          have HCE := Lib.hid hC
          have HK1 := Lib.hid (HKR.out C hC4)
          have HR1 := Lib.hid (HRR.out C hC4)
          have c1 := HTi.out.at HLL.out hC
          have y0 : (0 : Int) ≤ (y : Int) := by omega
          have y1 : (y : Int) < (L : Int) := by omega
          clear hC hC4
          generalize readKy k C ((q : Int) + (p : Int)) = r at *
          obtain ⟨X, E1⟩ := r
          dsimp only at HK1 HR1
          have HIx := Lib.hid (sizeS X)
          have HIr := Lib.hid (sizeSr X)
          have HEx := Lib.hid (cellsS_one X)
          have hqx := fun W => rneq_same X W
          go_wp2_with fail
          refine (HK1.out _ (HK.out.later HTi.out.below) HTi.out.pk).mono ?_
          rintro e w9 ⟨rfl, hb9⟩
          have HT9 := Lib.hid ((HTi.out.later hb9).alloc (.cells (cellsS X) 25))
          have HO9 := Lib.hid (heap_alloc_new w9 (.cells (cellsS X) 25))
          have c3 := HT9.out.at HLL.out HCE.out
          clear hb9 HTi HK1 c1
          go_wp2_with ((with_reducible refine gate9 ?_); (refine wpList_store_row rfl 25 (.tmp 15) (.tmp 133) rfl w9.heap.size (cellsS X) rfl rfl 25 #[.int .u32 0, .int .u32 0, .int .u32 0, .int .u32 0, .int .u32 0, .int .u32 0, .int .u32 0, .int .u16 0, .int .u16 0, .int .u16 0, .int .u16 0, .string ⟨#[]⟩, .int .i64 0, .int .i64 0] (heap_alloc_new _ _) HIx.out rfl HEx.out ?_; rw [World.setRow_alloc_new]))
          refine (HR1.out _ HT9.out.rk).mono ?_
          rintro e wA ⟨rfl, hbA⟩
          have HTA := Lib.hid ((HT9.out.later hbA).alloc (.cells (cellsS X) 32))
          have HOA := Lib.hid (heap_alloc_new wA (.cells (cellsS X) 32))
          have HO2 := Lib.hid ((heap_alloc_old wA (.cells (cellsS X) 32) (Nat.lt_of_lt_of_le (Array.getElem?_eq_some_iff.1 HO9.out).1 hbA.size)).trans ((hbA.block w9.heap.size (Array.getElem?_eq_some_iff.1 HO9.out).1).trans HO9.out))
          clear hbA HT9 HR1 HO9 c3
          go_wp2_with ((with_reducible refine gate9 ?_); (refine wpList_store_row rfl 32 (.tmp 17) (.tmp 143) rfl wA.heap.size (cellsS X) rfl rfl 32 #[.int .u32 0, .int .u32 0, .int .u32 0, .int .u32 0, .int .u32 0, .int .u32 0, .int .u32 0, .int .u16 0, .int .u16 0, .int .u16 0, .int .u16 0, .string ⟨#[]⟩, .int .i64 0, .int .i64 0] (heap_alloc_new _ _) HIr.out rfl HEx.out ?_; rw [World.setRow_alloc_new]))
          refine wp_region_noPanic ?_
          refine wp_region_held_drew (S := fun W' => W'.heap[w9.heap.size]? = some (.cells (cellsS X) 25 (0, 0)) ∧ W'.heap[wA.heap.size]? = some (.cells (cellsS X) 32 (0, 0)) ∧ TuS w W' a b (.slice (some ⟨g, 0, none⟩) L cap) k k m B) (by kernel_rfl) ?_ (fun hHeld => ?_)
          · exact ⟨HO2.out, HOA.out, HTA.out.later (Below.drew (Below.refl _ _))⟩
          refine k7 0 _ (y := yieldsIf_load_mid (by rfl) 25 (.tmp 15) rfl _ 0 (by rfl) _ _ (fun W h => range_of_row h.1) Tryd.underlying25 rfl HIx.out) (h := ?_)
          try simp only [Act.put, List.setIfInBounds_toArray, List.set_cons_zero, List.set_cons_succ]
          refine k7 2 _ (y := yieldsIf_load_mid (by rfl) 32 (.tmp 17) rfl _ 0 (by rfl) _ _ (fun W h => range_of_row h.2.1) Tryd.underlying32 rfl HIr.out) (h := ?_)
          try simp only [Act.put, List.setIfInBounds_toArray, List.set_cons_zero, List.set_cons_succ]
          refine wpAnyH_ready (rs := [1]) (by kernel_rfl) (by simp) ?_
          refine AllReadyH.cons (by simp only [q9a, q9s, q9z]; rfl) (fun K hK => ?_) AllReadyH.nil
          go_simp
          refine (as_any9 X _).mono ?_
          rintro _ wB ⟨rfl, hbB⟩
          have hS9 := And.intro ((hbB.block w9.heap.size (Array.getElem?_eq_some_iff.1 hHeld.1).1).trans hHeld.1) (And.intro ((hbB.block wA.heap.size (Array.getElem?_eq_some_iff.1 hHeld.2.1).1).trans hHeld.2.1) (hHeld.2.2.later hbB))
          clear hbB hHeld
          refine hK.out _ _ ?_ (fun hHeld => ?_)
          · exact hS9
          clear hK K
          try simp only [Act.put, List.setIfInBounds_toArray, List.set_cons_zero, List.set_cons_succ]
          clear hS9
          refine k9 3 ?_ (y := ?_) (h := ?_)
          rotate_left 1
          · (intro w' hSw; (try dsimp only at hSw); go_simp; try with_reducible rfl)
          try simp only [Act.put, List.setIfInBounds_toArray, List.set_cons_zero, List.set_cons_succ]
          refine k9 4 ?_ (y := ?_) (h := ?_)
          rotate_left 1
          · (intro w' hSw; (try dsimp only at hSw); go_simp; try with_reducible rfl)
          try simp only [Act.put, List.setIfInBounds_toArray, List.set_cons_zero, List.set_cons_succ]
          refine k9 5 ?_ (y := ?_) (h := ?_)
          rotate_left 1
          · (intro w' hSw; (try dsimp only at hSw); go_simp; try with_reducible rfl)
          try simp only [Act.put, List.setIfInBounds_toArray, List.set_cons_zero, List.set_cons_succ]
          refine k9 6 ?_ (y := ?_) (h := ?_)
          rotate_left 1
          · (intro w' hSw; (try dsimp only at hSw); go_simp; try with_reducible rfl)
          try simp only [Act.put, List.setIfInBounds_toArray, List.set_cons_zero, List.set_cons_succ]
          refine k9 7 ?_ (y := ?_) (h := ?_)
          rotate_left 1
          · (intro w' hSw; (try dsimp only at hSw); go_simp; try with_reducible rfl)
          try simp only [Act.put, List.setIfInBounds_toArray, List.set_cons_zero, List.set_cons_succ]
          have HTE := Lib.hid hHeld.2.2
          refine k9 8 ?_ (y := ?_) (h := ?_)
          rotate_left 1
          · (intro w' hSw; (try dsimp only at hSw); go_simp; try with_reducible rfl)
          try simp only [Act.put, List.setIfInBounds_toArray, List.set_cons_zero, List.set_cons_succ]
          refine wpAnyH_done (by kernel_rfl) ?_ _
          refine NoPanic.normal ?_
          clear hHeld
          clear HTA HOA HO2
          go_wp2_with fail
          go_roundw
          case rel => exact ⟨y + 1, by omega, by go_num, HTE⟩
          case measure => simp [intOf]; omega
        · obtain rfl : y = L := by omega
          go_wp2_with fail
          go_roundw
          case rel => exact ⟨j + 1, q + p, HQ.out, by go_num, by go_num, Lib.hid ⟨k, m, B, HTi.out, HPB.out⟩⟩
          case measure => simp [intOf]; omega
    · obtain rfl : j = n := by omega
      obtain ⟨k, m, A, hT, hP⟩ := HX.out
      have HE := Lib.hid hT.below
      go_wp2_with fail
      go_ret
      exact ⟨rfl, HE.out⟩

set_option maxRecDepth 100000 in
theorem lifted (os : Os) (started : os.Started) (H : Type) (enc : TypeId × Value → H) :
    ReturnsInHanded {} Tryd.checked os 4 .any (fun w args => (Rows.cookieTurnsSpec.pre enc Tryd.prog Tryd.f4 [] false w args ∧ laidMetH Tryd.prog laidK w) ∧ sizedMet enc Tryd.prog Tryd.f4 (OpenSpec.ofChange Rows.cookieTurnsSpec) false w args) (Rows.cookieTurnsSpec.post enc Tryd.prog Tryd.f4 false true false false) := by
  refine returnsInHanded_of_change_and (C := Tryd.checked) (X := fun w _ => laidMetH Tryd.prog laidK w) (fun _ _ _ hh h => h.of_heap hh) own started (by kernel_rfl) Tryd.func4
    (ChangeSpec.witness_shaped (enc := enc) (C := Tryd.checked) (os := os) (X := fun w _ => laidMetH Tryd.prog laidK w) false (World.doorLaid Tryd.prog 14 os) #[.slice none 0 0] 8 rfl (World.shaped_of_RefB (by kernel_rfl) (by kernel_rfl)) (by kernel_rfl) (by kernel_rfl) (by kernel_rfl) (door_met os _)) ?_
  intro W base args ds gs before hval0 hW _ hreach hL _
  have hval : ∀ (j : Nat) t v, Tryd.f4.params[j]? = some t → args[j]? = some v → Value.okWide Tryd.prog W .any base t v := hval0
  obtain ⟨p, q, hA0, _, _, _, _⟩ := id hW
  have hA : DataW.TrodAll enc Tryd.prog W 0 (fun _ => true) true Tryd.f4.params.toList args.toList ds p := hA0
  rw [Tryd.params4] at hA hval
  obtain ⟨v0, vs0, d0, ds0, p0, q0, hargs, rfl, rfl, h0, r0⟩ := trodAll_cons hA
  obtain ⟨rfl, rfl, rfl⟩ := trodAll_nil r0
  obtain rfl : args = #[v0] := by cases args; simp_all
  obtain ⟨l0, q0w, w0⟩ := acts_in (hval 0 41 v0 rfl rfl) h0
  refine (walk v0 l0 w0 W q0w (kub_of_laid hL)).mono fun e W' ⟨he, hg⟩ => ?_
  subst he
  exact ⟨_, rfl, law_post laidOut Tryd.underlying4 (by kernel_rfl) (by kernel_rfl) rfl hW (by simp [Rows.cookieTurnsSpec]) hg⟩

theorem row_proved : Rows.CookieTurnsSaid :=
  OpenClaim.holds_of_wide 4 Tryd.f4 rfl rfl rfl rfl rfl rfl rfl ⟨rfl, rfl, rfl, rfl, rfl⟩ rfl rfl rfl rfl rfl (by kernel_rfl) Tryd.func4 (by kernel_rfl)
    (of_decide_eq_true (by kernel_rfl)) (by unfold Func.isWrapper; first | (rw [if_pos (by decide +kernel)]; kernel_rfl) | (rw [if_neg (by decide +kernel)]; exact ⟨rfl, rfl⟩))
    (fun os started H enc _ => lifted os started H enc)

theorem proved : Rows.CookieTurnsCardSaid :=
  Claim7.holds_tied_plain_at .later [] [.data] true _ _
    row_proved (fun _ h => by cases h) (by kernel_rfl) (fun _ h => by cases h) cookieTurns_row_tie rfl ⟨rfl, rfl⟩ (by kernel_rfl) rfl
    (fun f fn hf hfn => by
      obtain rfl : f = 4 := Option.some.inj ((show Tryd.prog.funcNamed "towline/towlinelaw9.CookieTurns" = some 4 by kernel_rfl).symm.trans hf) |>.symm
      obtain rfl : fn = Tryd.f4 := (Option.some.inj (Tryd.func4.symm.trans hfn)).symm
      exact ⟨by kernel_rfl, fun j t ht => by
        rw [Tryd.params4] at ht
        have hm : t ∈ [41] := by have := Array.mem_of_getElem? ht; simp at this; simp; first | omega | (rcases this with h | h <;> simp [h]) | (rcases this with h | h | h <;> simp [h]) | (rcases this with h | h | h | h <;> simp [h])
        have hall : ([41].all fun u => !Tryd.prog.wantsStandIn u) = true := by kernel_rfl
        exact (show Tryd.prog.wantsStandIn t = false by simpa using List.all_eq_true.1 hall t hm)⟩)
    (by kernel_rfl)
#print axioms proved
end Go.Proofs.YthfiebdpoleeeaaDoor.cookieTurns
