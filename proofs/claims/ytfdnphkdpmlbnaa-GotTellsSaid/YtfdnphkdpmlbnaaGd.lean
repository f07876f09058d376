/-
  Copies of numbers; a number put in: contracts.
-/
import Derived.Test.YtfdnphkdpmlbnaaGb
import Derived.Test.YtfdnphkdpmlbnaaWaits
import Derived.Test.YtfdnphkdpmlbnaaWords
import Derived.Deep.RegionLawGrows
import Derived.ArgAppend
namespace Go.Proofs.Ytfdnphkdpmlbnaa
open Go.RowKit
set_option linter.unusedVariables false
set_option linter.unusedSimpArgs false
set_option maxRecDepth 100000

/-- Append onto what the call owns from B on, as one step of a region that draws its order. -/
theorem step_append_base {P : Program} (w : World) {ops : Array Oper} {o : Oper} {a : Act} {K : Act → World → Prop} {Q : Exit → Act → World → Prop} {E : Prop} (hgd : o.guard = none) (s x : Operand) (t u : TypeId)
    (ho : o.op = .call { callee := .builtin .append, args := #[s, x], argTypes := #[t, u] })
    (B : Nat) (hB : B ≤ w.heap.size) (e : TypeId) (i : TypeInfo) (z : Value) (size bytes : Nat) (ht : P.underlying t = some (.slice e)) (hu : P.underlying u = some .string ∨ ∃ e', P.underlying u = some (.slice e')) (hi : P.info? e = some i) (hz : i.zero = some z)
    (hsize : i.size = size) (hby : i.bytes = bytes) (hzs : z.cells.size = size) (v : Value) (n : Nat) (xs : List Value) (hs : a.eval s = v) (hown : OwnG w B e size v n xs)
    (vx : Value) (m : Nat) (news : List Value) (hxe : a.eval x = vx) (hx : Fed P w size vx m news) (h63 : n + m ≤ maxLen) (hbytes : (n + m) * bytes ≤ 140737488355328)
    (h : ∀ v' w', OwnG w' B e size v' (n + m) (xs ++ news) → w.grownBy w' v.ownBlock → K (a.put o.dst v') w') :
    if Region.wanted o (yielded ops a.tmps) = true then Oper.wp P o a w K Q else E := by
  have hw : Region.wanted o (yielded ops a.tmps) = true := by simp [Region.wanted, hgd]
  rw [if_pos hw]
  obtain ⟨v', w', hr, h2, h3, _⟩ := run_append_fed (P := P) w B t u o.type e i z size bytes ht hu hi hz hsize hby hzs v n xs hown vx m news hx h63 hbytes hB
  unfold Oper.wp execOp
  simp only [ho, resolve, invoke, builtin, Sem.run_bind, Sem.run_pure, Result.andThen_ok, List.map_toArray, List.map_cons, List.map_nil, hs, hxe, hr]
  exact h v' w' h2 h3
theorem infoUZ : (Try.prog.info? 22).map (fun i => (i.zero, i.size, i.bytes)) = some (some (.int .u32 0), 1, 4) := by kernel_rfl
theorem fedE {w : World} {a : Addr} {cap : Nat} {l : List UInt32} (h : RowE enc32 w (.slice (some a) l.length cap) l) : ∀ j u, (l.map enc32)[j]? = some u → w.cell? (a.add j) = some u := by
  obtain ⟨A', cap', hv, _, _, hc⟩ := h
  cases hv
  intro j u hu
  have hj : j < l.length := by have := (List.getElem?_eq_some_iff.1 hu).1; simpa using this
  obtain ⟨b, off, e, hlt, hcell⟩ := hc (by omega)
  cases e
  rw [addr_plain, hcell j hj, ← hu, List.getElem?_map, List.getElem?_eq_getElem hj, getElem!_pos l j hj]
  rfl
theorem oneE (l : List UInt32) : ∀ u ∈ l.map enc32, u.oneCell' = true := by
  intro u hu
  obtain ⟨x, _, rfl⟩ := List.mem_map.1 hu
  rfl
theorem own_formE {w : World} {base size n : Nat} {e : TypeId} {v : Value} {xs : List Value} (h : w.ownsRow base e size v n xs) : ∃ A cap, v = .slice A n cap ∧ n ≤ cap ∧ cap ≤ maxLen := by
  obtain ⟨A, cap, h1, h2, h3, _⟩ := own_slice h
  exact ⟨A, cap, h1, h2, h3⟩
theorem rowE_of_ownG {w : World} {base n : Nat} {e : TypeId} {v : Value} {l : List UInt32} (h : OwnG w base e 1 v n (l.map enc32)) : RowE enc32 w v l := by
  have hl : l.length = n := by have := h.1; simpa using this
  subst hl
  rcases h.2 with ⟨rfl, h0⟩ | ⟨g, cap, cur, fz, rfl, hb, hh, h1, h2, _⟩
  · exact ⟨none, 0, by rw [h0], by omega, Nat.zero_le _, fun hp => by omega⟩
  · refine ⟨_, cap, rfl, h1, h2, fun _ => ⟨g, 0, rfl, (Array.getElem?_eq_some_iff.1 hh).1, fun j hj => ?_⟩⟩
    rw [Nat.zero_add]
    refine h.cells _ _ ?_
    rw [List.getElem?_map, List.getElem?_eq_getElem hj, getElem!_pos l j hj]
    rfl
theorem fedT {w : World} {b off len cap : Nat} {l : List UInt32} {t : Nat} (h : RowE enc32 w (.slice (some ⟨b, off, none⟩) len cap) l) (hl : l.length = len) : ∀ j u, ((l.take t).map enc32)[j]? = some u → w.cell? ((⟨b, off, none⟩ : Addr).add j) = some u := by
  subst hl
  intro j u hu
  refine fedE h j u ?_
  rw [← hu, List.map_take, List.getElem?_take]
  have hj : j < t := by have := (List.getElem?_eq_some_iff.1 hu).1; simp at this; omega
  rw [if_pos hj]
theorem fed_none {w : World} (A : Option Addr) (c : Nat) : Fed Try.prog w 1 (.slice A 0 c) 0 [] := by
  cases A with
  | none => exact ⟨rfl, by simp, by intros; rfl, by intros; simp [run_firstCells_none]⟩
  | some a => exact Fed.cells rfl (by simp) (fun j u h => by simp at h)
theorem fedD {w : World} {b off len cap : Nat} {l : List UInt32} {t : Nat} (h : RowE enc32 w (.slice (some ⟨b, off, none⟩) len cap) l) (hl : l.length = len) (ht : t ≤ len) (hc : len ≤ cap) : Fed Try.prog w 1 (.slice (if cap = t then some ⟨b, off, none⟩ else some ⟨b, off + t, none⟩) (len - t) (cap - t)) (len - t) ((l.drop t).map enc32) := by
  subst hl
  by_cases e : t = l.length
  · subst e
    rw [Nat.sub_self, List.drop_length]
    exact fed_none _ _
  · rw [if_neg (by omega)]
    refine Fed.cells (by simp) (oneE _) (fun j u hu => ?_)
    have h1 := fedE h (t + j) u (by rw [← hu, List.map_drop, List.getElem?_drop])
    rw [addr_plain] at h1 ⊢
    rw [Nat.add_assoc]
    exact h1
set_option maxHeartbeats 1000000 in
theorem clone_any (l : List UInt32) (hl : l.length ≤ 1000000) (v : Value) (w : World) (h : RowE enc32 w v l) :
    Calls Try.prog 41 #[v] w fun e w' => ∃ v', e = .returned v' ∧ w'.ownsRow w.heap.size 22 1 v' l.length (l.map enc32) ∧ Below w.heap.size w w' := by
  obtain ⟨A, cap, rfl, hcap, hmax, hcells⟩ := id h
  have q22 : ∀ (w : World) (a : Option Addr) (n c n' c' : Nat), (binOp .eql 23 (.slice a n c) (.slice none n' c')).run Try.prog w = .ok (.bool a.isNone) w := fun w a n c n' c' => Lib.run_eql_slice_nil w _ _ a n c n' c' Try.underlying23
  by_cases hA : A = none
  · subst hA
    have h0 : l.length = 0 := by
      by_cases h1 : 0 < l.length
      · obtain ⟨b, off, e, _⟩ := hcells h1
        cases e
      · omega
    obtain rfl : l = [] := List.eq_nil_of_length_eq_zero h0
    clear h hcells
    go_enter Try.func41, Try.ntmps41
    go_wp2_with fail
    go_ret
    exact ⟨_, rfl, ⟨rfl, .inl ⟨rfl, rfl⟩⟩, Below.refl _ _⟩
  · obtain ⟨a, rfl⟩ := Option.ne_none_iff_exists'.1 hA
    obtain ⟨i0, hi0, hz0, hz1, hz2⟩ := info_parts infoUZ
    have HI := Lib.hid hi0
    have HZ0 := Lib.hid hz0
    have HZ1 := Lib.hid hz1
    have HZ2 := Lib.hid hz2
    have HF := Lib.hid (fedE (h.below ((Below.refl w.heap.size w).alloc (Nat.le_refl _) (.cells #[] 22))))
    clear h hcells hi0 hz0 hz1 hz2 hA
    have HO := Lib.hid (World.ownsRow_lit w (base := w.heap.size) (e := 22) (size := 1) #[] 0 (Nat.le_refl _) (Nat.zero_le _) rfl)
    have HL := Lib.hid (show (l.map enc32).length = l.length * 1 by simp)
    have H1 := Lib.hid (oneE l)
    go_enter Try.func41, Try.ntmps41
    go_wp2_with (at_builtin; refine wpList_append_own _ rfl _ _ 23 rfl w.heap.size 22 i0 _ 1 4 Try.underlying23 HI.out HZ0.out HZ1.out HZ2.out rfl (by decide) _ 0 [] rfl HO.out a l.length cap _ rfl HL.out HF.out H1.out ?c3 ?c4 ?c5 ?_)
    case c3 => unfold maxLen; omega
    case c4 => omega
    intro v' w1 hown hgrow _
    have HO2 := Lib.hid hown
    have HB := Lib.hid (((Below.refl w.heap.size w).alloc (Nat.le_refl _) (.cells #[] 22)).grown hgrow (by rw [World.size_alloc]; omega) (fun k hk => by cases hk; exact Nat.le_refl _))
    clear hown hgrow
    go_wp2_with fail
    go_ret
    exact ⟨_, rfl, by have := HO2.out; simpa using this, HB.out⟩
set_option maxHeartbeats 1000000 in
theorem with_mid (l : List UInt32) (len cap : Nat) (hlen : l.length = len) (hl : len ≤ 1000000) (t : Nat) (n : UInt32) (q : t ≤ len ∧ len ≤ cap) (b off : Nat) (hmax : cap ≤ maxLen) (w : World) (h : RowE enc32 w (.slice (some ⟨b, off, none⟩) len cap) l) :
    Calls Try.prog 32 #[.slice (some ⟨b, off, none⟩) len cap, .int .i64 (t : Int), .int .u32 (n.toNat : Int)] w fun e w' => ∃ v', e = .returned v' ∧ OwnG w' w.heap.size 22 1 v' (len + 1) ((l.take t ++ n :: l.drop t).map enc32) ∧ Below w.heap.size w w' := by
  obtain ⟨i0, hi0, hz0, hz1, hz2⟩ := info_parts infoUZ
  have HI := Lib.hid hi0
  have HZ0 := Lib.hid hz0
  have HZ1 := Lib.hid hz1
  have HZ2 := Lib.hid hz2
  have HV := Lib.hid h
  clear h hi0 hz0 hz1 hz2
  have HN := Lib.hid hlen
  have hmx : (cap : Int) ≤ 9223372036854775807 := by unfold maxLen at hmax; omega
  have q3 : (t : Int) ≤ (len : Int) := by omega
  have q4 : (t : Int) ≤ (cap : Int) := by omega
  have q5 : (len : Int) ≤ (cap : Int) := by omega
  clear hlen hmax
  have q1 : (0 : Int) ≤ (t : Int) := by omega
  go_enter Try.func32, Try.ntmps32
  go_wp2_with fail
  refine wp_region_noPanic ?_
  have HS : (fun V => RowE enc32 V (.slice (some ⟨b, off, none⟩) len cap) l ∧ Below w.heap.size w V) w.drew := ⟨HV.out, below_drawn (Below.refl w.heap.size w)⟩
  refine wp_region_waits (S := (fun V => RowE enc32 V (.slice (some ⟨b, off, none⟩) len cap) l ∧ Below w.heap.size w V)) [11] (by kernel_rfl) HS (fun hHeld => ?_)
  clear HS
  refine wpAnyW_take (i := 0) (v := ?_) (by simp only [List.getElem?_toArray, List.getElem?_cons_zero]; rfl) (by kernel_rfl) (by kernel_rfl) (by kernel_rfl) (by kernel_rfl) (by kernel_rfl) (fun _ _ _ h => h) (Or.inl ⟨by rfl, ?_⟩) (by assumption) ?_
  rotate_left 1
  · (intro w' hSw; go_simp; try with_reducible rfl)
  try simp only [Act.put, List.setIfInBounds_toArray, List.set_cons_zero, List.set_cons_succ]
  refine wpAnyW_take (i := 1) (v := ?_) (by simp only [List.getElem?_toArray, List.getElem?_cons_succ, List.getElem?_cons_zero]; rfl) (by kernel_rfl) (by kernel_rfl) (by kernel_rfl) (by kernel_rfl) (by kernel_rfl) (fun _ _ _ h => h) (Or.inl ⟨by rfl, ?_⟩) (by assumption) ?_
  rotate_left 1
  · (intro w' hSw; go_simp; try with_reducible rfl)
  try simp only [Act.put, List.setIfInBounds_toArray, List.set_cons_zero, List.set_cons_succ]
  refine wpAnyW_take (i := 2) (v := ?_) (by simp only [List.getElem?_toArray, List.getElem?_cons_succ, List.getElem?_cons_zero]; rfl) (by kernel_rfl) (by kernel_rfl) (by kernel_rfl) (by kernel_rfl) (by kernel_rfl) (fun _ _ _ h => h) (Or.inl ⟨by rfl, ?_⟩) (by assumption) ?_
  rotate_left 1
  · (intro w' hSw; go_simp; try with_reducible rfl)
  try simp only [Act.put, List.setIfInBounds_toArray, List.set_cons_zero, List.set_cons_succ]
  refine wpAnyW_take (i := 3) (v := ?_) (by simp only [List.getElem?_toArray, List.getElem?_cons_succ, List.getElem?_cons_zero]; rfl) (by kernel_rfl) (by kernel_rfl) (by kernel_rfl) (by kernel_rfl) (by kernel_rfl) (fun _ _ _ h => h) (Or.inl ⟨by rfl, ?_⟩) (by assumption) ?_
  rotate_left 1
  · (intro w' hSw; go_simp; try with_reducible rfl)
  try simp only [Act.put, List.setIfInBounds_toArray, List.set_cons_zero, List.set_cons_succ]
  refine wpAnyW_take (i := 4) (v := ?_) (by simp only [List.getElem?_toArray, List.getElem?_cons_succ, List.getElem?_cons_zero]; rfl) (by kernel_rfl) (by kernel_rfl) (by kernel_rfl) (by kernel_rfl) (by kernel_rfl) (fun _ _ _ h => h) (Or.inl ⟨by rfl, ?_⟩) (by assumption) ?_
  rotate_left 1
  · (intro w' hSw; go_simp; try with_reducible rfl)
  try simp only [Act.put, List.setIfInBounds_toArray, List.set_cons_zero, List.set_cons_succ]
  refine wpAnyW_take (i := 7) (v := ?_) (by simp only [List.getElem?_toArray, List.getElem?_cons_succ, List.getElem?_cons_zero]; rfl) (by kernel_rfl) (by kernel_rfl) (by kernel_rfl) (by kernel_rfl) (by kernel_rfl) (fun _ _ _ h => h) (Or.inl ⟨by rfl, ?_⟩) (by assumption) ?_
  rotate_left 1
  · (intro w' hSw; go_simp; try with_reducible rfl)
  try simp only [Act.put, List.setIfInBounds_toArray, List.set_cons_zero, List.set_cons_succ]
  refine wpAnyW_take (i := 8) (v := ?_) (by simp only [List.getElem?_toArray, List.getElem?_cons_succ, List.getElem?_cons_zero]; rfl) (by kernel_rfl) (by kernel_rfl) (by kernel_rfl) (by kernel_rfl) (by kernel_rfl) (fun _ _ _ h => h) (Or.inl ⟨by rfl, ?_⟩) (by assumption) ?_
  rotate_left 1
  · (intro w' hSw; go_simp; try with_reducible rfl)
  try simp only [Act.put, List.setIfInBounds_toArray, List.set_cons_zero, List.set_cons_succ]
  refine wpAnyW_take (i := 9) (v := ?_) (by simp only [List.getElem?_toArray, List.getElem?_cons_succ, List.getElem?_cons_zero]; rfl) (by kernel_rfl) (by kernel_rfl) (by kernel_rfl) (by kernel_rfl) (by kernel_rfl) (fun _ _ _ h => h) (Or.inl ⟨by rfl, ?_⟩) (by assumption) ?_
  rotate_left 1
  · (intro w' hSw; go_simp; try with_reducible rfl)
  try simp only [Act.put, List.setIfInBounds_toArray, List.set_cons_zero, List.set_cons_succ]
  refine wpAnyW_held (i := 5) (by kernel_rfl) (by simp only [List.getElem?_toArray, List.getElem?_cons_succ, List.getElem?_cons_zero]; rfl) (fun K hK => ?_)
  rw [if_pos (by rfl)]
  go_simp
  have HB1 := Lib.hid (below_drawn ((Below.refl w.heap.size w).alloc (Nat.le_refl _) (.cells #[.int .u32 (n.toNat : Int)] 22)))
  have HX1 := Lib.hid (Bx.fresh w 22 #[.int .u32 (n.toNat : Int)]).drew
  generalize hW1 : (w.alloc (.cells #[.int .u32 (n.toNat : Int)] 22)).drew = W1 at *
  have HV1 := Lib.hid (HV.out.below HB1.out)
  have HX1 : Hid (Bx W1 w.heap.size 22 #[.int .u32 (n.toNat : Int)]) := Lib.hid (by rw [← hW1]; exact (Bx.fresh w 22 #[.int .u32 (n.toNat : Int)]).drew)
  clear hW1 hHeld
  refine hK.out _ _ ⟨HV1.out, HB1.out⟩ (fun hHeld => ?_)
  clear hK K hHeld
  try simp only [Act.put, List.setIfInBounds_toArray, List.set_cons_zero, List.set_cons_succ]
  refine wpAnyW_held (i := 6) (by kernel_rfl) (by simp only [List.getElem?_toArray, List.getElem?_cons_succ, List.getElem?_cons_zero]; rfl) (fun K hK => ?_)
  refine step_append_grows (by rfl) (.tmp 10) (.tmp 12) 23 (by rfl) 22 i0 _ 1 4 Try.underlying23 HI.out HZ0.out HZ1.out HZ2.out rfl (by decide) (some ⟨b, off, none⟩) t t ((l.take t).map enc32) (by rfl) (fun h => by cases h) (by simp [HN.out]; omega) (fun a ha j u hu => by cases ha; exact fedT HV1.out HN.out j u hu) ⟨w.heap.size, 0, none⟩ 1 1 [.int .u32 (n.toNat : Int)] (by rfl) rfl (fun j u hj => by rw [addr_plain, Nat.zero_add, HX1.out.at]; simpa using hj) (by intro u hu; simp at hu; subst hu; rfl) (by omega) (by unfold maxLen; omega) (by omega) ?_
  intro v2 W2 hown hgrow
  have HB2 := Lib.hid (HB1.out.grown hgrow HB1.out.size (fun k hk => by cases hk))
  have HV2 := Lib.hid (HV.out.below HB2.out)
  have HO2 := Lib.hid (OwnG.of (own_base hown HB1.out.size))
  have HFD : Hid (Fed Try.prog W2 1 (.slice (if cap = t then some ⟨b, off, none⟩ else some ⟨b, off + t, none⟩) (len - t) (cap - t)) (len - t) ((l.drop t).map enc32)) := Lib.hid (fedD HV2.out HN.out q.1 q.2)
  clear hown hgrow HB1 HV1 HX1
  refine hK.out _ _ ⟨HV2.out, HB2.out⟩ (fun hHeld => ?_)
  clear hK K hHeld
  try simp only [Act.put, List.setIfInBounds_toArray, List.set_cons_zero, List.set_cons_succ]
  refine wpAnyW_held (i := 10) (by kernel_rfl) (by simp only [List.getElem?_toArray, List.getElem?_cons_succ, List.getElem?_cons_zero]; rfl) (fun K hK => ?_)
  refine step_append_base _ (by rfl) (.tmp 13) (.tmp 16) 23 23 (by rfl) w.heap.size HB2.out.size 22 i0 _ 1 4 Try.underlying23 (.inr ⟨_, Try.underlying23⟩) HI.out HZ0.out HZ1.out HZ2.out rfl _ (t + 1) _ (by rfl) HO2.out _ (len - t) ((l.drop t).map enc32) (by rfl) HFD.out (by unfold maxLen; omega) (by omega) ?_
  intro v3 W3 hown3 hg3
  have HB3 := Lib.hid (HB2.out.grown hg3 HB2.out.size (fun k hk => (HO2.out.lt k hk).1))
  have HO3 := Lib.hid hown3
  have HV3 := Lib.hid (HV.out.below HB3.out)
  clear hown3 hg3
  refine hK.out _ _ ⟨HV3.out, HB3.out⟩ (fun hHeld => ?_)
  clear hK K hHeld
  try simp only [Act.put, List.setIfInBounds_toArray, List.set_cons_zero, List.set_cons_succ]
  refine wpAnyW_freed (i := 11) (by kernel_rfl) (by kernel_rfl) (by simp only [List.getElem?_toArray, List.getElem?_cons_succ, List.getElem?_cons_zero]; rfl) (fun K hK => ?_)
  rw [if_pos (by rfl)]
  go_simp
  refine hK.out _ _ ?_
  clear hK K
  try simp only [Act.put, List.setIfInBounds_toArray, List.set_cons_zero, List.set_cons_succ]
  refine wpAnyW_done (by kernel_rfl) ?_ _
  refine NoPanic.normal ?_
  go_wp2_with fail
  all_goals
    go_ret
    exact ⟨_, rfl, by
      have h9 := HO3.out
      rw [show (t + 1) + (len - t) = len + 1 by omega, show (List.map enc32 (l.take t) ++ [Value.int .u32 (n.toNat : Int)] ++ (l.drop t).map enc32) = (l.take t ++ n :: l.drop t).map enc32 from by rw [List.map_append, List.map_cons, List.append_assoc]; rfl] at h9
      simpa using h9, HB3.out⟩
set_option maxHeartbeats 1000000 in
theorem with_none  (n : UInt32) (cap : Nat) (hmax : cap ≤ maxLen) (w : World) (h : RowE enc32 w (.slice none 0 cap) []) :
    Calls Try.prog 32 #[.slice none 0 cap, .int .i64 0, .int .u32 (n.toNat : Int)] w fun e w' => ∃ v', e = .returned v' ∧ OwnG w' w.heap.size 22 1 v' 1 [enc32 n] ∧ Below w.heap.size w w' := by
  obtain ⟨i0, hi0, hz0, hz1, hz2⟩ := info_parts infoUZ
  have HI := Lib.hid hi0
  have HZ0 := Lib.hid hz0
  have HZ1 := Lib.hid hz1
  have HZ2 := Lib.hid hz2
  have HV := Lib.hid h
  clear h hi0 hz0 hz1 hz2
  have HN := Lib.hid (show ([] : List UInt32).length = 0 from rfl)
  have hmx : (cap : Int) ≤ 9223372036854775807 := by unfold maxLen at hmax; omega
  clear hmax
  go_enter Try.func32, Try.ntmps32
  go_wp2_with fail
  refine wp_region_noPanic ?_
  have HS : (fun V => RowE enc32 V (.slice none 0 cap) [] ∧ Below w.heap.size w V) w.drew := ⟨HV.out, below_drawn (Below.refl w.heap.size w)⟩
  refine wp_region_waits (S := (fun V => RowE enc32 V (.slice none 0 cap) [] ∧ Below w.heap.size w V)) [11] (by kernel_rfl) HS (fun hHeld => ?_)
  clear HS
  refine wpAnyW_take (i := 0) (v := ?_) (by simp only [List.getElem?_toArray, List.getElem?_cons_zero]; rfl) (by kernel_rfl) (by kernel_rfl) (by kernel_rfl) (by kernel_rfl) (by kernel_rfl) (fun _ _ _ h => h) (Or.inl ⟨by rfl, ?_⟩) (by assumption) ?_
  rotate_left 1
  · (intro w' hSw; go_simp; try with_reducible rfl)
  try simp only [Act.put, List.setIfInBounds_toArray, List.set_cons_zero, List.set_cons_succ]
  refine wpAnyW_take (i := 1) (v := ?_) (by simp only [List.getElem?_toArray, List.getElem?_cons_succ, List.getElem?_cons_zero]; rfl) (by kernel_rfl) (by kernel_rfl) (by kernel_rfl) (by kernel_rfl) (by kernel_rfl) (fun _ _ _ h => h) (Or.inl ⟨by rfl, ?_⟩) (by assumption) ?_
  rotate_left 1
  · (intro w' hSw; go_simp; try with_reducible rfl)
  try simp only [Act.put, List.setIfInBounds_toArray, List.set_cons_zero, List.set_cons_succ]
  refine wpAnyW_take (i := 2) (v := ?_) (by simp only [List.getElem?_toArray, List.getElem?_cons_succ, List.getElem?_cons_zero]; rfl) (by kernel_rfl) (by kernel_rfl) (by kernel_rfl) (by kernel_rfl) (by kernel_rfl) (fun _ _ _ h => h) (Or.inl ⟨by rfl, ?_⟩) (by assumption) ?_
  rotate_left 1
  · (intro w' hSw; go_simp; try with_reducible rfl)
  try simp only [Act.put, List.setIfInBounds_toArray, List.set_cons_zero, List.set_cons_succ]
  refine wpAnyW_take (i := 3) (v := ?_) (by simp only [List.getElem?_toArray, List.getElem?_cons_succ, List.getElem?_cons_zero]; rfl) (by kernel_rfl) (by kernel_rfl) (by kernel_rfl) (by kernel_rfl) (by kernel_rfl) (fun _ _ _ h => h) (Or.inl ⟨by rfl, ?_⟩) (by assumption) ?_
  rotate_left 1
  · (intro w' hSw; go_simp; try with_reducible rfl)
  try simp only [Act.put, List.setIfInBounds_toArray, List.set_cons_zero, List.set_cons_succ]
  refine wpAnyW_take (i := 4) (v := ?_) (by simp only [List.getElem?_toArray, List.getElem?_cons_succ, List.getElem?_cons_zero]; rfl) (by kernel_rfl) (by kernel_rfl) (by kernel_rfl) (by kernel_rfl) (by kernel_rfl) (fun _ _ _ h => h) (Or.inl ⟨by rfl, ?_⟩) (by assumption) ?_
  rotate_left 1
  · (intro w' hSw; go_simp; try with_reducible rfl)
  try simp only [Act.put, List.setIfInBounds_toArray, List.set_cons_zero, List.set_cons_succ]
  refine wpAnyW_take (i := 7) (v := ?_) (by simp only [List.getElem?_toArray, List.getElem?_cons_succ, List.getElem?_cons_zero]; rfl) (by kernel_rfl) (by kernel_rfl) (by kernel_rfl) (by kernel_rfl) (by kernel_rfl) (fun _ _ _ h => h) (Or.inl ⟨by rfl, ?_⟩) (by assumption) ?_
  rotate_left 1
  · (intro w' hSw; go_simp; try with_reducible rfl)
  try simp only [Act.put, List.setIfInBounds_toArray, List.set_cons_zero, List.set_cons_succ]
  refine wpAnyW_take (i := 8) (v := ?_) (by simp only [List.getElem?_toArray, List.getElem?_cons_succ, List.getElem?_cons_zero]; rfl) (by kernel_rfl) (by kernel_rfl) (by kernel_rfl) (by kernel_rfl) (by kernel_rfl) (fun _ _ _ h => h) (Or.inl ⟨by rfl, ?_⟩) (by assumption) ?_
  rotate_left 1
  · (intro w' hSw; go_simp; try with_reducible rfl)
  try simp only [Act.put, List.setIfInBounds_toArray, List.set_cons_zero, List.set_cons_succ]
  refine wpAnyW_take (i := 9) (v := ?_) (by simp only [List.getElem?_toArray, List.getElem?_cons_succ, List.getElem?_cons_zero]; rfl) (by kernel_rfl) (by kernel_rfl) (by kernel_rfl) (by kernel_rfl) (by kernel_rfl) (fun _ _ _ h => h) (Or.inl ⟨by rfl, ?_⟩) (by assumption) ?_
  rotate_left 1
  · (intro w' hSw; go_simp; try with_reducible rfl)
  try simp only [Act.put, List.setIfInBounds_toArray, List.set_cons_zero, List.set_cons_succ]
  refine wpAnyW_held (i := 5) (by kernel_rfl) (by simp only [List.getElem?_toArray, List.getElem?_cons_succ, List.getElem?_cons_zero]; rfl) (fun K hK => ?_)
  rw [if_pos (by rfl)]
  go_simp
  have HB1 := Lib.hid (below_drawn ((Below.refl w.heap.size w).alloc (Nat.le_refl _) (.cells #[.int .u32 (n.toNat : Int)] 22)))
  have HX1 := Lib.hid (Bx.fresh w 22 #[.int .u32 (n.toNat : Int)]).drew
  generalize hW1 : (w.alloc (.cells #[.int .u32 (n.toNat : Int)] 22)).drew = W1 at *
  have HV1 := Lib.hid (HV.out.below HB1.out)
  have HX1 : Hid (Bx W1 w.heap.size 22 #[.int .u32 (n.toNat : Int)]) := Lib.hid (by rw [← hW1]; exact (Bx.fresh w 22 #[.int .u32 (n.toNat : Int)]).drew)
  clear hW1 hHeld
  refine hK.out _ _ ⟨HV1.out, HB1.out⟩ (fun hHeld => ?_)
  clear hK K hHeld
  try simp only [Act.put, List.setIfInBounds_toArray, List.set_cons_zero, List.set_cons_succ]
  refine wpAnyW_held (i := 6) (by kernel_rfl) (by simp only [List.getElem?_toArray, List.getElem?_cons_succ, List.getElem?_cons_zero]; rfl) (fun K hK => ?_)
  refine step_append_grows (by rfl) (.tmp 10) (.tmp 12) 23 (by rfl) 22 i0 _ 1 4 Try.underlying23 HI.out HZ0.out HZ1.out HZ2.out rfl (by decide) none 0 0 [] (by rfl) (fun _ => ⟨rfl, rfl⟩) (by simp) (fun a ha => by cases ha) ⟨w.heap.size, 0, none⟩ 1 1 [.int .u32 (n.toNat : Int)] (by rfl) rfl (fun j u hj => by rw [addr_plain, Nat.zero_add, HX1.out.at]; simpa using hj) (by intro u hu; simp at hu; subst hu; rfl) (by omega) (by unfold maxLen; omega) (by omega) ?_
  intro v2 W2 hown hgrow
  have HB2 := Lib.hid (HB1.out.grown hgrow HB1.out.size (fun k hk => by cases hk))
  have HV2 := Lib.hid (HV.out.below HB2.out)
  have HO2 := Lib.hid (OwnG.of (own_base hown HB1.out.size))
  have HFD : Hid (Fed Try.prog W2 1 (.slice none 0 cap) 0 []) := Lib.hid (fed_none _ _)
  clear hown hgrow HB1 HV1 HX1
  refine hK.out _ _ ⟨HV2.out, HB2.out⟩ (fun hHeld => ?_)
  clear hK K hHeld
  try simp only [Act.put, List.setIfInBounds_toArray, List.set_cons_zero, List.set_cons_succ]
  refine wpAnyW_held (i := 10) (by kernel_rfl) (by simp only [List.getElem?_toArray, List.getElem?_cons_succ, List.getElem?_cons_zero]; rfl) (fun K hK => ?_)
  refine step_append_base _ (by rfl) (.tmp 13) (.tmp 16) 23 23 (by rfl) w.heap.size HB2.out.size 22 i0 _ 1 4 Try.underlying23 (.inr ⟨_, Try.underlying23⟩) HI.out HZ0.out HZ1.out HZ2.out rfl _ (0 + 1) _ (by rfl) HO2.out _ 0 [] (by rfl) HFD.out (by unfold maxLen; omega) (by omega) ?_
  intro v3 W3 hown3 hg3
  have HB3 := Lib.hid (HB2.out.grown hg3 HB2.out.size (fun k hk => (HO2.out.lt k hk).1))
  have HO3 := Lib.hid hown3
  have HV3 := Lib.hid (HV.out.below HB3.out)
  clear hown3 hg3
  refine hK.out _ _ ⟨HV3.out, HB3.out⟩ (fun hHeld => ?_)
  clear hK K hHeld
  try simp only [Act.put, List.setIfInBounds_toArray, List.set_cons_zero, List.set_cons_succ]
  refine wpAnyW_freed (i := 11) (by kernel_rfl) (by kernel_rfl) (by simp only [List.getElem?_toArray, List.getElem?_cons_succ, List.getElem?_cons_zero]; rfl) (fun K hK => ?_)
  rw [if_pos (by rfl)]
  go_simp
  refine hK.out _ _ ?_
  clear hK K
  try simp only [Act.put, List.setIfInBounds_toArray, List.set_cons_zero, List.set_cons_succ]
  refine wpAnyW_done (by kernel_rfl) ?_ _
  refine NoPanic.normal ?_
  go_wp2_with fail
  all_goals
    go_ret
    exact ⟨_, rfl, by have h9 := HO3.out; simpa [enc32] using h9, HB3.out⟩
set_option maxHeartbeats 1000000 in
theorem with_empty  (n : UInt32) (a : Addr) (cap : Nat) (hmax : cap ≤ maxLen) (w : World) (h : RowE enc32 w (.slice (some a) 0 cap) []) :
    Calls Try.prog 32 #[.slice (some a) 0 cap, .int .i64 0, .int .u32 (n.toNat : Int)] w fun e w' => ∃ v', e = .returned v' ∧ OwnG w' w.heap.size 22 1 v' 1 [enc32 n] ∧ Below w.heap.size w w' := by
  obtain ⟨i0, hi0, hz0, hz1, hz2⟩ := info_parts infoUZ
  have HI := Lib.hid hi0
  have HZ0 := Lib.hid hz0
  have HZ1 := Lib.hid hz1
  have HZ2 := Lib.hid hz2
  have HV := Lib.hid h
  clear h hi0 hz0 hz1 hz2
  have HN := Lib.hid (show ([] : List UInt32).length = 0 from rfl)
  have hmx : (cap : Int) ≤ 9223372036854775807 := by unfold maxLen at hmax; omega
  clear hmax
  go_enter Try.func32, Try.ntmps32
  go_wp2_with fail
  refine wp_region_noPanic ?_
  have HS : (fun V => RowE enc32 V (.slice (some a) 0 cap) [] ∧ Below w.heap.size w V) w.drew := ⟨HV.out, below_drawn (Below.refl w.heap.size w)⟩
  refine wp_region_waits (S := (fun V => RowE enc32 V (.slice (some a) 0 cap) [] ∧ Below w.heap.size w V)) [11] (by kernel_rfl) HS (fun hHeld => ?_)
  clear HS
  refine wpAnyW_take (i := 0) (v := ?_) (by simp only [List.getElem?_toArray, List.getElem?_cons_zero]; rfl) (by kernel_rfl) (by kernel_rfl) (by kernel_rfl) (by kernel_rfl) (by kernel_rfl) (fun _ _ _ h => h) (Or.inl ⟨by rfl, ?_⟩) (by assumption) ?_
  rotate_left 1
  · (intro w' hSw; go_simp; try with_reducible rfl)
  try simp only [Act.put, List.setIfInBounds_toArray, List.set_cons_zero, List.set_cons_succ]
  refine wpAnyW_take (i := 1) (v := ?_) (by simp only [List.getElem?_toArray, List.getElem?_cons_succ, List.getElem?_cons_zero]; rfl) (by kernel_rfl) (by kernel_rfl) (by kernel_rfl) (by kernel_rfl) (by kernel_rfl) (fun _ _ _ h => h) (Or.inl ⟨by rfl, ?_⟩) (by assumption) ?_
  rotate_left 1
  · (intro w' hSw; go_simp; try with_reducible rfl)
  try simp only [Act.put, List.setIfInBounds_toArray, List.set_cons_zero, List.set_cons_succ]
  refine wpAnyW_take (i := 2) (v := ?_) (by simp only [List.getElem?_toArray, List.getElem?_cons_succ, List.getElem?_cons_zero]; rfl) (by kernel_rfl) (by kernel_rfl) (by kernel_rfl) (by kernel_rfl) (by kernel_rfl) (fun _ _ _ h => h) (Or.inl ⟨by rfl, ?_⟩) (by assumption) ?_
  rotate_left 1
  · (intro w' hSw; go_simp; try with_reducible rfl)
  try simp only [Act.put, List.setIfInBounds_toArray, List.set_cons_zero, List.set_cons_succ]
  refine wpAnyW_take (i := 3) (v := ?_) (by simp only [List.getElem?_toArray, List.getElem?_cons_succ, List.getElem?_cons_zero]; rfl) (by kernel_rfl) (by kernel_rfl) (by kernel_rfl) (by kernel_rfl) (by kernel_rfl) (fun _ _ _ h => h) (Or.inl ⟨by rfl, ?_⟩) (by assumption) ?_
  rotate_left 1
  · (intro w' hSw; go_simp; try with_reducible rfl)
  try simp only [Act.put, List.setIfInBounds_toArray, List.set_cons_zero, List.set_cons_succ]
  refine wpAnyW_take (i := 4) (v := ?_) (by simp only [List.getElem?_toArray, List.getElem?_cons_succ, List.getElem?_cons_zero]; rfl) (by kernel_rfl) (by kernel_rfl) (by kernel_rfl) (by kernel_rfl) (by kernel_rfl) (fun _ _ _ h => h) (Or.inl ⟨by rfl, ?_⟩) (by assumption) ?_
  rotate_left 1
  · (intro w' hSw; go_simp; try with_reducible rfl)
  try simp only [Act.put, List.setIfInBounds_toArray, List.set_cons_zero, List.set_cons_succ]
  refine wpAnyW_take (i := 7) (v := ?_) (by simp only [List.getElem?_toArray, List.getElem?_cons_succ, List.getElem?_cons_zero]; rfl) (by kernel_rfl) (by kernel_rfl) (by kernel_rfl) (by kernel_rfl) (by kernel_rfl) (fun _ _ _ h => h) (Or.inl ⟨by rfl, ?_⟩) (by assumption) ?_
  rotate_left 1
  · (intro w' hSw; go_simp; try with_reducible rfl)
  try simp only [Act.put, List.setIfInBounds_toArray, List.set_cons_zero, List.set_cons_succ]
  refine wpAnyW_take (i := 8) (v := ?_) (by simp only [List.getElem?_toArray, List.getElem?_cons_succ, List.getElem?_cons_zero]; rfl) (by kernel_rfl) (by kernel_rfl) (by kernel_rfl) (by kernel_rfl) (by kernel_rfl) (fun _ _ _ h => h) (Or.inl ⟨by rfl, ?_⟩) (by assumption) ?_
  rotate_left 1
  · (intro w' hSw; go_simp; try with_reducible rfl)
  try simp only [Act.put, List.setIfInBounds_toArray, List.set_cons_zero, List.set_cons_succ]
  refine wpAnyW_take (i := 9) (v := ?_) (by simp only [List.getElem?_toArray, List.getElem?_cons_succ, List.getElem?_cons_zero]; rfl) (by kernel_rfl) (by kernel_rfl) (by kernel_rfl) (by kernel_rfl) (by kernel_rfl) (fun _ _ _ h => h) (Or.inl ⟨by rfl, ?_⟩) (by assumption) ?_
  rotate_left 1
  · (intro w' hSw; go_simp; try with_reducible rfl)
  try simp only [Act.put, List.setIfInBounds_toArray, List.set_cons_zero, List.set_cons_succ]
  refine wpAnyW_held (i := 5) (by kernel_rfl) (by simp only [List.getElem?_toArray, List.getElem?_cons_succ, List.getElem?_cons_zero]; rfl) (fun K hK => ?_)
  rw [if_pos (by rfl)]
  go_simp
  have HB1 := Lib.hid (below_drawn ((Below.refl w.heap.size w).alloc (Nat.le_refl _) (.cells #[.int .u32 (n.toNat : Int)] 22)))
  have HX1 := Lib.hid (Bx.fresh w 22 #[.int .u32 (n.toNat : Int)]).drew
  generalize hW1 : (w.alloc (.cells #[.int .u32 (n.toNat : Int)] 22)).drew = W1 at *
  have HV1 := Lib.hid (HV.out.below HB1.out)
  have HX1 : Hid (Bx W1 w.heap.size 22 #[.int .u32 (n.toNat : Int)]) := Lib.hid (by rw [← hW1]; exact (Bx.fresh w 22 #[.int .u32 (n.toNat : Int)]).drew)
  clear hW1 hHeld
  refine hK.out _ _ ⟨HV1.out, HB1.out⟩ (fun hHeld => ?_)
  clear hK K hHeld
  try simp only [Act.put, List.setIfInBounds_toArray, List.set_cons_zero, List.set_cons_succ]
  refine wpAnyW_held (i := 6) (by kernel_rfl) (by simp only [List.getElem?_toArray, List.getElem?_cons_succ, List.getElem?_cons_zero]; rfl) (fun K hK => ?_)
  refine step_append_grows (by rfl) (.tmp 10) (.tmp 12) 23 (by rfl) 22 i0 _ 1 4 Try.underlying23 HI.out HZ0.out HZ1.out HZ2.out rfl (by decide) (some a) 0 0 [] (by rfl) (fun h => by cases h) (by simp) (fun a ha j u hu => by simp at hu) ⟨w.heap.size, 0, none⟩ 1 1 [.int .u32 (n.toNat : Int)] (by rfl) rfl (fun j u hj => by rw [addr_plain, Nat.zero_add, HX1.out.at]; simpa using hj) (by intro u hu; simp at hu; subst hu; rfl) (by omega) (by unfold maxLen; omega) (by omega) ?_
  intro v2 W2 hown hgrow
  have HB2 := Lib.hid (HB1.out.grown hgrow HB1.out.size (fun k hk => by cases hk))
  have HV2 := Lib.hid (HV.out.below HB2.out)
  have HO2 := Lib.hid (OwnG.of (own_base hown HB1.out.size))
  have HFD : Hid (Fed Try.prog W2 1 (.slice (some a) 0 cap) 0 []) := Lib.hid (fed_none _ _)
  clear hown hgrow HB1 HV1 HX1
  refine hK.out _ _ ⟨HV2.out, HB2.out⟩ (fun hHeld => ?_)
  clear hK K hHeld
  try simp only [Act.put, List.setIfInBounds_toArray, List.set_cons_zero, List.set_cons_succ]
  refine wpAnyW_held (i := 10) (by kernel_rfl) (by simp only [List.getElem?_toArray, List.getElem?_cons_succ, List.getElem?_cons_zero]; rfl) (fun K hK => ?_)
  refine step_append_base _ (by rfl) (.tmp 13) (.tmp 16) 23 23 (by rfl) w.heap.size HB2.out.size 22 i0 _ 1 4 Try.underlying23 (.inr ⟨_, Try.underlying23⟩) HI.out HZ0.out HZ1.out HZ2.out rfl _ (0 + 1) _ (by rfl) HO2.out _ 0 [] (by rfl) HFD.out (by unfold maxLen; omega) (by omega) ?_
  intro v3 W3 hown3 hg3
  have HB3 := Lib.hid (HB2.out.grown hg3 HB2.out.size (fun k hk => (HO2.out.lt k hk).1))
  have HO3 := Lib.hid hown3
  have HV3 := Lib.hid (HV.out.below HB3.out)
  clear hown3 hg3
  refine hK.out _ _ ⟨HV3.out, HB3.out⟩ (fun hHeld => ?_)
  clear hK K hHeld
  try simp only [Act.put, List.setIfInBounds_toArray, List.set_cons_zero, List.set_cons_succ]
  refine wpAnyW_freed (i := 11) (by kernel_rfl) (by kernel_rfl) (by simp only [List.getElem?_toArray, List.getElem?_cons_succ, List.getElem?_cons_zero]; rfl) (fun K hK => ?_)
  rw [if_pos (by rfl)]
  go_simp
  refine hK.out _ _ ?_
  clear hK K
  try simp only [Act.put, List.setIfInBounds_toArray, List.set_cons_zero, List.set_cons_succ]
  refine wpAnyW_done (by kernel_rfl) ?_ _
  refine NoPanic.normal ?_
  go_wp2_with fail
  all_goals
    go_ret
    exact ⟨_, rfl, by have h9 := HO3.out; simpa [enc32] using h9, HB3.out⟩
theorem with_any (l : List UInt32) (hl : l.length ≤ 1000000) (t : Nat) (ht : t ≤ l.length) (n : UInt32) (v : Value) (w : World) (h : RowE enc32 w v l) :
    Calls Try.prog 32 #[v, .int .i64 (t : Int), .int .u32 (n.toNat : Int)] w fun e w' => ∃ v', e = .returned v' ∧ OwnG w' w.heap.size 22 1 v' (l.length + 1) ((l.take t ++ n :: l.drop t).map enc32) ∧ Below w.heap.size w w' := by
  obtain ⟨A, cap, rfl, hcap, hmax, hcells⟩ := id h
  by_cases h0 : l.length = 0
  · obtain rfl : l = [] := List.eq_nil_of_length_eq_zero h0
    obtain rfl : t = 0 := by simpa using ht
    cases A with
    | none =>
      exact with_none n cap hmax w h
    | some a => exact with_empty n a cap hmax w h
  · obtain ⟨b, off, rfl, hb, hc⟩ := hcells (by omega)
    exact with_mid l l.length cap rfl hl t n ⟨ht, hcap⟩ b off hmax w h
end Go.Proofs.Ytfdnphkdpmlbnaa
