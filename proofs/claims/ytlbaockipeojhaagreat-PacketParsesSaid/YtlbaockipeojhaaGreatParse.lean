/-
  Package tlv: Parse: its contract, whatever text.
-/
import Derived.Test.YtlbaockipeojhaaGreatFirst
import Derived.Test.YtlbaockipeojhaaGreatRow
namespace Go.Proofs.YtlbaockipeojhaaGreat
open Go.RowKit Go.Shelf
set_option linter.unusedVariables false

attribute [local go_sem] Oper.semAt_some

set_option maxHeartbeats 1000000 in
/-- The maker: the text lies in a block of its own, which the function knows. -/
theorem iter_made (n : Nat) (s : ByteArray) (w : World) :
    CallsIn Fence.wide n Tryz.prog 125 #[.string s] w fun e w' => e = .returned (.func (.func 126) #[] #[.pointer (some ⟨w.heap.size, 0, none⟩)]) ∧ w' = w.alloc (.cells #[.string s] 9) := by
  refine callsIn_of_wp Tryz.func125 rfl trivial ?_ rfl
  simp only [Tryz.ntmps125, List.size_toArray, List.length_cons, List.length_nil, Nat.reduceAdd, Nat.reduceSub, Array.replicate_succ, Array.replicate_zero, List.push_toArray, List.append_toArray, List.nil_append, List.cons_append]
  gi_wp2
  go_ret
  exact ⟨rfl, rfl⟩
theorem iter_stops (n : Nat) (hn : 1 ≤ n) (Bs : Nat) (s : ByteArray) (hs : s.size ≤ 1000000) (w : World) (hc : Boxed w Bs 9 (.string s)) :
    SeqStopsK Fence.wide n Tryz.prog 126 #[.pointer (some ⟨Bs, 0, none⟩)] (handed s.data.toList) (Kp Bs) (Ends s.data.toList) (Begins s.data.toList) s.size w := fun l J Jx W hW hJ _ hY h0 =>
  iter_goes n hn l Bs s hs J Jx W hJ hY ((hW.block Bs hc.lt).trans hc) h0
theorem parse_long {s : ByteArray} (h : 4000 < s.size) : parseB s = ([], 0, 4) := by unfold parseB; rw [if_pos h]
theorem parse_fits {s : ByteArray} (h : ¬ 4000 < s.size) : parseB s = parseL s.data.toList := by unfold parseB; rw [if_neg h]
/-- A block of cells lies on. -/
theorem block_own {β : Type} (b : Nat) (cs : Array Value) (t : TypeId) (fr : Nat × Nat) : Own (fun (_ : β) W => W.heap[b]? = some (.cells cs t fr)) := fun s X Y row hs hg hrow => by
  refine (hg.block b (Array.getElem?_eq_some_iff.1 hs).1 (fun e' => ?_)).trans hs
  obtain ⟨o, ho, hc⟩ := hrow b e'.symm
  rw [hs] at ho; cases ho; cases hc


/-- One item more onto what the call owns: no block that holds one item alone turns. -/
theorem append_pairs {P : Program} (w : World) (t ty e : TypeId) (i : TypeInfo) (z : Value) (bytes : Nat) (ht : P.underlying t = some (.slice e)) (hi : P.info? e = some i) (hz : i.zero = some z) (hsize : i.size = 2) (hby : i.bytes = bytes)
    (base : Nat) (v : Value) (k : Nat) (xs : List Value) (hown : w.ownsRow base e 2 v k xs) (hnil : k = 0 → v = .slice none 0 0) (a : Addr) (c : Nat) (news : List Value) (hl : news.length = 1 * 2) (hnews : ∀ j u, news[j]? = some u → w.cell? (a.add j) = some u)
    (h63 : k + 1 ≤ maxLen) (hbytes : (k + 1) * bytes ≤ 140737488355328) {v' : Value} {w' : World} (hr : (Builtin.append_ #[t, t] ty #[v, .slice (some a) 1 c]).run P w = .ok v' w') (hg : w.grownBy w' v.ownBlock) :
    ∀ (b : Nat) (x y : Value), w.heap[b]? = some (Obj.cells #[x, y] e (0, 0)) → w'.heap[b]? = w.heap[b]? := by
  intro b x y hb
  subst hby
  have hblt : b < w.heap.size := (Array.getElem?_eq_some_iff.1 hb).1
  have hsmall : k + 1 ≤ 9223372036854775807 := by simp only [maxLen] at h63; omega
  by_cases hbv : some b = v.ownBlock
  · rcases hown.2 with ⟨rfl, _⟩ | ⟨g, cap, cur, rfl, hbg, hgg, hnc, hcm, hcs, htake⟩
    · cases hbv
    · obtain rfl : b = g := by simpa [Value.ownBlock] using hbv
      rw [hb] at hgg
      injection hgg with hgg
      injection hgg with hcur _ _
      subst hcur
      have hcap : cap = 1 := by have : (2 : Nat) = cap * 2 := hcs; omega
      have hk1 : k ≠ 0 := fun h0 => by cases hnil h0
      have holds : ∀ j u, xs[j]? = some u → w.cell? ((⟨b, 0, none⟩ : Addr).add j) = some u := hown.cells (g := b) rfl
      have hr' := run_append_grow (P := P) w t ty e i z ht hi hz ⟨b, 0, none⟩ k cap xs (by rw [hsize]; exact hown.1) holds a 1 c news (by rw [hsize]; exact hl) hnews (by omega) (by omega) (growslice_fits (by omega) hbytes)
      rw [hr'] at hr
      injection hr with _ hw
      subst hw
      exact Below.heap_alloc w.drew _ b hblt
  · exact hg.block b hblt hbv
theorem wpListIn_append_item {F : Fence} {n : Nat} {P : Program} (w : World) {ops : Array Oper} {rest : List Oper} {o : Oper} {a : Act} {Q : Exit → Act → World → Prop}
    (hg : o.guard = none) (s x : Operand) (t : TypeId) (hop : o.op = Op.call { callee := Callee.builtin Builtin.append, args := #[s, x], argTypes := #[t, t] })
    (base : Nat) (e : TypeId) (i : TypeInfo) (z : Value) (bytes : Nat) (h1 : P.underlying t = some (.slice e)) (h2 : P.info? e = some i) (h3 : i.zero = some z) (h4 : i.size = 2) (h5 : i.bytes = bytes) (h6 : z.cells.size = 2)
    (v : Value) (k : Nat) (xs : List Value) (hs : a.eval s = v) (hown : w.ownsRow base e 2 v k xs) (hnil : k = 0 → v = .slice none 0 0) (ad : Addr) (c : Nat) (news : List Value) (hx : a.eval x = .slice (some ad) 1 c) (hn : news.length = 1 * 2)
    (hc : ∀ j u, news[j]? = some u → w.cell? (ad.add j) = some u) (h1c : ∀ u ∈ news, u.oneCell' = true) (b1 : k + 1 ≤ maxLen) (b2 : (k + 1) * bytes ≤ 140737488355328) (b3 : base ≤ w.heap.size)
    (hK : ∀ v' w', w'.ownsRow base e 2 v' (k + 1) (xs ++ news) → w.grownBy w' v.ownBlock → (∀ (b : Nat) (x y : Value), w.heap[b]? = some (Obj.cells #[x, y] e (0, 0)) → w'.heap[b]? = w.heap[b]?) → wpListIn F n P ops Q rest (a.put o.dst v') w') :
    wpListIn F n P ops Q (o :: rest) a w := by
  refine wpListIn_plain hg fun K hK' => ?_
  obtain ⟨v', w', hrun, r1, r2, r3⟩ := run_append_own (P := P) w base t o.type e i z 2 bytes h1 h2 h3 h4 h5 h6 (by omega) v k xs hown ad 1 c news hn hc h1c b1 b2 b3
  have r4 := append_pairs (P := P) w t o.type e i z bytes h1 h2 h3 h4 h5 base v k xs hown hnil ad c news hn hc b1 b2 hrun r2
  unfold Oper.wpIn
  refine ⟨?_, ?_⟩
  · simp [Oper.about, hop, resolve, Target.leads, Sem.run_pure]
  · rw [Oper.semAt_plain F _ _ (by rw [hop]; intro c hc'; cases hc')]
    simp [execOp, hop, resolve, invoke, builtin, hs, hx, hrun, Result.andThen]
    exact hK' _ _ (hK v' w' r1 r2 r4)

/-- What was told is read out of its three blocks. -/
theorem parse_told (tmps : Array Value) (W : World) (A B C : Nat) (a : Option Addr) (l c : Nat) (n e : Int) (hA : tmps.getD 2 undef = .pointer (some ⟨A, 0, none⟩)) (hB : tmps.getD 3 undef = .pointer (some ⟨B, 0, none⟩)) (hC : tmps.getD 4 undef = .pointer (some ⟨C, 0, none⟩))
    (h0 : W.cell? ⟨A, 0, none⟩ = some (.slice a l c)) (h1 : W.cell? ⟨B, 0, none⟩ = some (.int .i64 n)) (h2 : W.cell? ⟨C, 0, none⟩ = some (.int .i64 e)) :
    (results Tryz.f116 tmps).run Tryz.prog W = .ok (.tuple #[.slice a l c, .int .i64 n, .int .i64 e]) W := by
  have hA' : tmps[2]?.getD undef = .pointer (some ⟨A, 0, none⟩) := by simpa using hA
  have hB' : tmps[3]?.getD undef = .pointer (some ⟨B, 0, none⟩) := by simpa using hB
  have hC' : tmps[4]?.getD undef = .pointer (some ⟨C, 0, none⟩) := by simpa using hC
  simp [results, Tryz.f116, go_sem, hA', hB', hC', h0, h1, h2]

set_option maxRecDepth 100000 in
set_option maxHeartbeats 4000000 in
theorem parse_in (s : ByteArray) (hs : s.size ≤ 1000000) (w : World) :
    CallsIn Fence.wide 9 Tryz.prog 116 #[.string s] w fun e w' => ∃ v, e = .returned (.tuple #[v, .int .i64 ((parseB s).2.1 : Nat), .int .i64 ((parseB s).2.2 : Nat)]) ∧ OwnG w' w.heap.size 86 2 v (parseB s).1.length (flatI (parseB s).1) ∧ Below w.heap.size w w' := by
  by_cases hlong : 4000 < s.size
  · rw [parse_long hlong]
    have hl : (4000 : Int) < (s.size : Int) := by omega
    clear hlong
    refine callsIn_of_wp_marks Tryz.func116 rfl trivial ?_ rfl
    simp only [Tryz.ntmps116, List.size_toArray, List.length_cons, List.length_nil, Nat.reduceAdd, Nat.reduceSub, Array.replicate_succ, Array.replicate_zero, List.push_toArray, List.append_toArray, List.nil_append, List.cons_append]
    gi_wp2
    have b0 := ((Boxed.new w 50 (.slice none 0 0)).alloc (.cells #[.int .i64 0] 3)).alloc (.cells #[.int .i64 4] 29)
    have b1 := (Boxed.new (w.alloc (.cells #[.slice none 0 0] 50)) 3 (.int .i64 0)).alloc (.cells #[.int .i64 4] 29)
    have b2 := Boxed.new ((w.alloc (.cells #[.slice none 0 0] 50)).alloc (.cells #[.int .i64 0] 3)) 29 (.int .i64 4)
    simp only [World.size_alloc] at b1 b2
    exact ⟨_, parse_told _ _ w.heap.size (w.heap.size + 1) (w.heap.size + 1 + 1) none 0 0 0 4 rfl rfl rfl b0.cell b1.cell b2.cell, _, rfl, OwnG.nil _ _ _ _, (((Below.refl _ w).alloc (Nat.le_refl _) _).alloc (by simp) _).alloc (by simp; omega) _⟩
  rw [parse_fits hlong]
  have hl : ¬ (4000 : Int) < (s.size : Int) := by omega
  have hsz : s.size ≤ 4000 := by omega
  have HI := Lib.hid (fun (W : World) h => iter_stops 8 (by omega) (w.heap.size + 1 + 1 + 1 + 1) s hs W h)
  generalize s.data.toList = L at *
  obtain ⟨i0, hi0, hz0, hz1, hz2⟩ := info_parts info47
  refine callsIn_of_wp_marks Tryz.func116 rfl trivial ?_ rfl
  simp only [Tryz.ntmps116, List.size_toArray, List.length_cons, List.length_nil, Nat.reduceAdd, Nat.reduceSub, Array.replicate_succ, Array.replicate_zero, List.push_toArray, List.append_toArray, List.nil_append, List.cons_append]
  gi_wp2_with (refine ⟨trivial, ?_⟩; gi_at_call 125; refine (iter_made 8 s _).mono ?_; rintro e w' ⟨rfl, rfl⟩)
  have e0 := World.size_alloc w (.cells #[.slice none 0 0] 50)
  have b0 := ((((Boxed.new w 50 (.slice none 0 0)).alloc (.cells #[.int .i64 0] 3)).alloc (.cells #[.int .i64 0] 29)).alloc (.cells #[.slice none 0 0] 50)).alloc (.cells #[.string s] 9)
  have b1 := (((Boxed.new (w.alloc (.cells #[.slice none 0 0] 50)) 3 (.int .i64 0)).alloc (.cells #[.int .i64 0] 29)).alloc (.cells #[.slice none 0 0] 50)).alloc (.cells #[.string s] 9)
  have b2 := ((Boxed.new ((w.alloc (.cells #[.slice none 0 0] 50)).alloc (.cells #[.int .i64 0] 3)) 29 (.int .i64 0)).alloc (.cells #[.slice none 0 0] 50)).alloc (.cells #[.string s] 9)
  have b3 := (Boxed.new (((w.alloc (.cells #[.slice none 0 0] 50)).alloc (.cells #[.int .i64 0] 3)).alloc (.cells #[.int .i64 0] 29)) 50 (.slice none 0 0)).alloc (.cells #[.string s] 9)
  have b4 := Boxed.new ((((w.alloc (.cells #[.slice none 0 0] 50)).alloc (.cells #[.int .i64 0] 3)).alloc (.cells #[.int .i64 0] 29)).alloc (.cells #[.slice none 0 0] 50)) 9 (.string s)
  have hB5 : Below w.heap.size w (((((w.alloc (.cells #[.slice none 0 0] 50)).alloc (.cells #[.int .i64 0] 3)).alloc (.cells #[.int .i64 0] 29)).alloc (.cells #[.slice none 0 0] 50)).alloc (.cells #[.string s] 9)) :=
    (((((Below.refl _ w).alloc (Nat.le_refl _) _).alloc (by simp) _).alloc (by simp; omega) _).alloc (by simp; omega) _).alloc (by simp; omega) _
  have hsz5 : (((((w.alloc (.cells #[.slice none 0 0] 50)).alloc (.cells #[.int .i64 0] 3)).alloc (.cells #[.int .i64 0] 29)).alloc (.cells #[.slice none 0 0] 50)).alloc (.cells #[.string s] 9)).heap.size = w.heap.size + 5 := by simp
  simp only [World.size_alloc] at b1 b2 b3 b4
  generalize hw5 : ((((w.alloc (.cells #[.slice none 0 0] 50)).alloc (.cells #[.int .i64 0] 3)).alloc (.cells #[.int .i64 0] 29)).alloc (.cells #[.slice none 0 0] 50)).alloc (.cells #[.string s] 9) = w5 at *
  clear hw5 e0
  refine wpIn_rangeFunc_ownH rfl (by omega) (gf := 126) (lb := #[.pointer (some ⟨w.heap.size + 1 + 1 + 1 + 1, 0, none⟩)]) rfl trivial (enters_of Tryz.func126 (by kernel_rfl) rfl)
    (HI.out _ b4) Kp.trans (Kp.b (by omega)) (Below.refl _ _) (fun _ => rfl)
    (fun pre W => ((((Boxed W w.heap.size 50 (.slice none 0 0) ∧ Boxed W (w.heap.size + 1) 3 (.int .i64 0)) ∧ Boxed W (w.heap.size + 1 + 1) 29 (.int .i64 0)) ∧ Boxed W (w.heap.size + 1 + 1 + 1 + 1) 9 (.string s)) ∧
      (∃ v, Boxed W (w.heap.size + 1 + 1 + 1) 50 v ∧ W.ownsRow w.heap.size 86 2 v pre.length (flatI (itemsAt L pre)) ∧ (pre.length = 0 → v = .slice none 0 0))) ∧ (Below w.heap.size w W ∧ ∀ p ∈ pre, errL (L.drop p) = 0))
    (fun c pre W => c = .ret ∧ ∃ (q : List Nat) (p : Nat), pre = q ++ [p] ∧ errL (L.drop p) ≠ 0 ∧ (((Boxed W w.heap.size 50 (.slice none 0 0) ∧ Boxed W (w.heap.size + 1) 3 (.int .i64 (p : Int))) ∧ Boxed W (w.heap.size + 1 + 1) 29 (.int .i64 (errL (L.drop p) : Nat))) ∧ Below w.heap.size w W))
    ?hI ?hIx ?h0
    (fun x a' W => ∃ b, a' = { tmps := #[.string s, undef, .pointer (some ⟨w.heap.size, 0, none⟩), .pointer (some ⟨w.heap.size + 1, 0, none⟩), .pointer (some ⟨w.heap.size + 1 + 1, 0, none⟩), .pointer (some ⟨w.heap.size + 1 + 1 + 1, 0, none⟩), .pointer (some ⟨b, 0, none⟩), .string s, .int .i64 (s.size : Int), .bool false, .string s, .func (.func 126) #[] #[.pointer (some ⟨w.heap.size + 1 + 1 + 1 + 1, 0, none⟩)], .agg #[.int .i64 (x : Int), .int .i64 (firstI (L.drop x)).1, .string (firstI (L.drop x)).2, .int .i64 (errL (L.drop x) : Nat)], undef, undef, undef, undef, undef, undef, undef, undef, undef, undef, undef, undef, undef], defers := [] } ∧
      W.heap[b]? = some (.cells #[.int .i64 (x : Int), .int .i64 (firstI (L.drop x)).1, .string (firstI (L.drop x)).2, .int .i64 (errL (L.drop x) : Nat)] 165 (0, 0)))
    ?hAx ?assign ?body ?done ?stop
  case hI =>
    exact OwnFrom.and (OwnFrom.and (OwnFrom.and (OwnFrom.and (OwnFrom.and (Own.from (boxed_own _ _ _) _) (Own.from (boxed_own _ _ _) _)) (Own.from (boxed_own _ _ _) _)) (Own.from (boxed_own _ _ _) _))
      (Own.from (holdsRow_own w.heap.size _ _ _ _ (fun pre : List Nat => pre.length) (fun pre => flatI (itemsAt L pre)) (fun pre v => pre.length = 0 → v = .slice none 0 0)) _))
      (OwnFrom.and (ownFrom_below (Nat.le_refl _) (by omega)) (fun _ _ _ _ hs _ _ => hs))
  case hIx =>
    rintro c pre X Y row ⟨rfl, q, p, rfl, he, ⟨⟨h1, h2⟩, h3⟩, h4⟩ hg hr
    have hr' : ∀ r, row = some r → ∃ o : Obj, X.heap[r]? = some o ∧ o.isCells = false := fun r e => (hr r e).2
    exact ⟨rfl, q, p, rfl, he, ⟨⟨boxed_own _ _ (fun _ : Unit => .slice none 0 0) () X Y row h1 hg hr', boxed_own _ _ (fun _ : Unit => _) () X Y row h2 hg hr'⟩, boxed_own _ _ (fun _ : Unit => _) () X Y row h3 hg hr'⟩, ownFrom_below (β := Unit) (Nat.le_refl _) (by omega) () X Y row h4 hg hr⟩
  case h0 => exact ⟨⟨⟨⟨⟨b0, b1⟩, b2⟩, b4⟩, _, b3, World.ownsRow_nil _ _ _ _, fun _ => rfl⟩, hB5, by simp⟩
  case hAx =>
    rintro x a' _ X Y row ⟨b, rfl, hb⟩ hg hr
    exact ⟨b, rfl, block_own b _ _ _ () X Y row hb hg (fun r e => (hr r e).2)⟩
  case assign =>
    intro l pre x W K hi hK
    unfold handed
    gi_wp2
    obtain ⟨⟨⟨⟨⟨h1, h2⟩, h3⟩, h4⟩, v, hv, hrow, hnil⟩, hB, hp⟩ := hi
    have hsW := hB.size
    exact hK _ _ ((KeepsOthers.alloc W _).from _) ⟨Below.heap_alloc W _ _ h4.lt, fun b _ _ hb => Below.heap_alloc W _ b (Array.getElem?_eq_some_iff.1 hb).1⟩
      ⟨⟨⟨⟨⟨h1.alloc _, h2.alloc _⟩, h3.alloc _⟩, h4.alloc _⟩, v, hv.alloc _, hrow.alloc _, hnil⟩, hB.alloc (by omega) _, hp⟩ ⟨_, rfl, World.alloc_heap_new W _⟩
  case body =>
    rintro l pre x a' W hlW ⟨r, hr⟩ ⟨⟨⟨⟨⟨h1, h2⟩, h3⟩, h4⟩, v, hv, hrow, hnil⟩, hB, hp⟩ ⟨b, rfl, hb⟩ hlen
    have c0 : W.cell? ⟨b, 0, none⟩ = some (.int .i64 (x : Int)) := by rw [cell_of_row _ b 0 _ _ (0, 0) hb]; rfl
    have c1 : W.cell? ⟨b, 1, none⟩ = some (.int .i64 (firstI (L.drop x)).1) := by rw [cell_of_row _ b 1 _ _ (0, 0) hb]; rfl
    have c2 : W.cell? ⟨b, 2, none⟩ = some (.string (firstI (L.drop x)).2) := by rw [cell_of_row _ b 2 _ _ (0, 0) hb]; rfl
    have c3 : W.cell? ⟨b, 3, none⟩ = some (.int .i64 (errL (L.drop x) : Nat)) := by rw [cell_of_row _ b 3 _ _ (0, 0) hb]; rfl
    have hsW := hB.size
    have hmx : Tryz.prog.follows .mixedOrders = true := by kernel_rfl
    by_cases her : errL (L.drop x) = 0
    · have HI2 := Lib.hid (show flatI (itemsAt L (pre ++ [x])) = flatI (itemsAt L pre) ++ [.int .i64 (itemL (L.drop x)).1, .string (itemL (L.drop x)).2] by rw [itemsAt_snoc, flatI_append]; rfl)
      have HP2 := Lib.hid (show ∀ p ∈ pre ++ [x], errL (L.drop p) = 0 from fun p hm => (List.mem_append.1 hm).elim (hp p) (fun e => by simp at e; subst e; exact her))
      rw [firstI_ok her] at c1 c2
      rw [her] at c3
      rw [firstI_ok her, her]
      have c3' : W.cell? ⟨b, 3, none⟩ = some (.int .i64 0) := c3
      generalize itemL (L.drop x) = it at *
      obtain ⟨a, t⟩ := it
      dsimp only at c1 c2 HI2
      have hcv := hv.cell
      have hb4 := h4.lt
      clear c3
      gi_wp2_with (gi_at_builtin; refine wpListIn_append_item _ rfl _ _ 50 rfl w.heap.size 86 i0 (.agg #[.int .i64 0, .string ⟨#[]⟩]) 24 Tryz.underlying50 hi0 hz0 hz1 hz2 rfl _ _ _ rfl (hrow.alloc _) hnil ⟨W.heap.size, 0, none⟩ 1 [.int .i64 a, .string t] rfl rfl (new_cells _ _ _) (by intro u hu; simp at hu; rcases hu with rfl | rfl <;> rfl) (by unfold maxLen; omega) (by omega) (by simp; omega) ?_; intro v' w2 hown' hgrow hpairs; obtain ⟨g', cap', rfl⟩ := ownsRow_succ hown'; obtain ⟨hv1, hv2, hr2, hk2, hb2⟩ := hv.appended (by decide) hrow (by omega) (by omega) hown' hgrow; have hcv1 := hv1.cell; have hfv1 := hv1.frozen)
      have hgrow2 : (W.alloc (.cells #[.int .i64 a, .string t] 86)).grownBy w2 v.ownBlock := hgrow
      have keep : ∀ (B : Nat) (ty : TypeId) (u : Value), ty ≠ 86 → B ≠ w.heap.size + 1 + 1 + 1 → Boxed W B ty u → Boxed (w2.setCell ⟨w.heap.size + 1 + 1 + 1, 0, none⟩ (.slice (some ⟨g', 0, none⟩) (pre.length + 1) cap')) B ty u := fun B ty u hty hne h =>
        ((h.alloc _).kept hgrow2 (h.not_row hty hrow)).other hne _
      have h41 := keep _ _ _ (by decide) (by omega) h4
      refine ⟨hk2.from _, ⟨h41.trans (show W.heap[_]? = _ from h4).symm, fun b' x' y' hb' => ?_⟩, ⟨⟨⟨⟨keep _ _ _ (by decide) (by omega) h1, keep _ _ _ (by decide) (by omega) h2⟩, keep _ _ _ (by decide) (by omega) h3⟩, h41⟩, _, hv2, ?_, fun h0 => by simp at h0⟩, hB.trans (hb2.mono (Nat.le_refl _)), HP2.out⟩
      · have hbl : b' < W.heap.size := (Array.getElem?_eq_some_iff.1 hb').1
        have hne : b' ≠ w.heap.size + 1 + 1 + 1 := by
          rintro rfl
          have := (show W.heap[w.heap.size + 1 + 1 + 1]? = _ from hv).symm.trans hb'
          simp at this
        have ha := Below.heap_alloc W (.cells #[.int .i64 a, .string t] 86) b' hbl
        exact (Below.heap_setCell _ _ _ b' hne).trans ((hpairs b' x' y' (ha.trans hb')).trans ha)
      · rw [HI2.out, List.length_append]
        exact hr2
    · have hne : ((errL (L.drop x) : Nat) : Int) ≠ 0 := by omega
      have hne' : (((errL (L.drop x) : Nat) : Int) != 0) = true := by simp; omega
      generalize hE : errL (L.drop x) = er at *
      have HE := Lib.hid hE
      have HHE := Lib.hid her
      clear hE
      have G1 := Lib.hid (((h1.set (.slice none 0 0)).other (show w.heap.size ≠ w.heap.size + 1 by omega) (.int .i64 (x : Int))).other (show w.heap.size ≠ w.heap.size + 1 + 1 by omega) (.int .i64 (er : Int)))
      have G2 := Lib.hid (((h2.other (show w.heap.size + 1 ≠ w.heap.size by omega) (.slice none 0 0)).set (.int .i64 (x : Int))).other (show w.heap.size + 1 ≠ w.heap.size + 1 + 1 by omega) (.int .i64 (er : Int)))
      have G3 := Lib.hid (((h3.other (show w.heap.size + 1 + 1 ≠ w.heap.size by omega) (.slice none 0 0)).other (show w.heap.size + 1 + 1 ≠ w.heap.size + 1 by omega) (.int .i64 (x : Int))).set (.int .i64 (er : Int)))
      have G4 := Lib.hid (((hB.setCell (p := ⟨w.heap.size, 0, none⟩) (Nat.le_refl _) (.slice none 0 0)).setCell (p := ⟨w.heap.size + 1, 0, none⟩) (Nat.le_succ _) (.int .i64 (x : Int))).setCell (p := ⟨w.heap.size + 1 + 1, 0, none⟩) (by show w.heap.size ≤ w.heap.size + 1 + 1; omega) (.int .i64 (er : Int))).drew
      have f1 := h1.frozen
      have f2 := h2.frozen
      have f3 := h3.frozen
      have k1 := h1.cell
      have k2 := h2.cell
      have k3 := h3.cell
      have nA : b ≠ w.heap.size := by rintro rfl; have := (show W.heap[w.heap.size]? = _ from h1).symm.trans hb; simp at this
      have nB : b ≠ w.heap.size + 1 := by rintro rfl; have := (show W.heap[w.heap.size + 1]? = _ from h2).symm.trans hb; simp at this
      have nC : b ≠ w.heap.size + 1 + 1 := by rintro rfl; have := (show W.heap[w.heap.size + 1 + 1]? = _ from h3).symm.trans hb; simp at this
      have rA0 : ∀ (X : World) (u : Value), (X.setCell ⟨w.heap.size, 0, none⟩ u).cell? ⟨b, 0, none⟩ = X.cell? ⟨b, 0, none⟩ := fun X u => World.cell?_setCell_other _ _ _ _ (by intro e; injection e; omega)
      have rA3 : ∀ (X : World) (u : Value), (X.setCell ⟨w.heap.size, 0, none⟩ u).cell? ⟨b, 3, none⟩ = X.cell? ⟨b, 3, none⟩ := fun X u => World.cell?_setCell_other _ _ _ _ (by intro e; injection e; omega)
      have rB0 : ∀ (X : World) (u : Value), (X.setCell ⟨w.heap.size + 1, 0, none⟩ u).cell? ⟨b, 0, none⟩ = X.cell? ⟨b, 0, none⟩ := fun X u => World.cell?_setCell_other _ _ _ _ (by intro e; injection e; omega)
      have rB3 : ∀ (X : World) (u : Value), (X.setCell ⟨w.heap.size + 1, 0, none⟩ u).cell? ⟨b, 3, none⟩ = X.cell? ⟨b, 3, none⟩ := fun X u => World.cell?_setCell_other _ _ _ _ (by intro e; injection e; omega)
      have rC0 : ∀ (X : World) (u : Value), (X.setCell ⟨w.heap.size + 1 + 1, 0, none⟩ u).cell? ⟨b, 0, none⟩ = X.cell? ⟨b, 0, none⟩ := fun X u => World.cell?_setCell_other _ _ _ _ (by intro e; injection e; omega)
      have rC3 : ∀ (X : World) (u : Value), (X.setCell ⟨w.heap.size + 1 + 1, 0, none⟩ u).cell? ⟨b, 3, none⟩ = X.cell? ⟨b, 3, none⟩ := fun X u => World.cell?_setCell_other _ _ _ _ (by intro e; injection e; omega)
      clear c1 c2 hb nA nB nC h1 h2 h3 h4 hv hrow hnil hB hp hsW hB5 b0 b1 b2 b3 b4 her HI hr hlW hlen hi0 hz0 hz1 hz2 hlong hsz hs
      gi_wp2
      gi_region_with_o fail
      all_goals gi_wp2
      all_goals
        exact ⟨((((KeepsOthers.setCell _ _ _).trans (KeepsOthers.setCell _ _ _)).trans (KeepsOthers.setCell _ _ _)).trans (KeepsOthers.drew _)).from _, rfl, pre, x, rfl, by rw [HE.out]; exact HHE.out, ⟨⟨G1.out, G2.out⟩, by rw [HE.out]; exact G3.out⟩, G4.out⟩
  case done =>
    rintro D ys W hD hS ⟨⟨⟨⟨⟨h1, h2⟩, h3⟩, h4⟩, v, hv, hrow, hnil⟩, hB, hp⟩ hK
    have hpl := ends_all hS hp
    obtain ⟨A, cap, rfl, _, _, _⟩ := own_slice hrow
    have hil : (itemsAt L ys).length = ys.length := by simp [itemsAt]
    generalize itemsAt L ys = items at *
    have HPL := Lib.hid hpl
    have cv := hv.cell
    have f1 := h1.frozen
    have f2 := h2.frozen
    have f3 := h3.frozen
    have k1 := h1.cell
    have k2 := h2.cell
    have k3 := h3.cell
    have G1 := ((h1.set (.slice A ys.length cap)).other (show w.heap.size ≠ w.heap.size + 1 by omega) (.int .i64 0)).other (show w.heap.size ≠ w.heap.size + 1 + 1 by omega) (.int .i64 0)
    have G2 := ((h2.other (show w.heap.size + 1 ≠ w.heap.size by omega) (.slice A ys.length cap)).set (.int .i64 0)).other (show w.heap.size + 1 ≠ w.heap.size + 1 + 1 by omega) (.int .i64 0)
    have G3 := ((h3.other (show w.heap.size + 1 + 1 ≠ w.heap.size by omega) (.slice A ys.length cap)).other (show w.heap.size + 1 + 1 ≠ w.heap.size + 1 by omega) (.int .i64 0)).set (.int .i64 0)
    have GB := ((hB.setCell (p := ⟨w.heap.size, 0, none⟩) (Nat.le_refl _) (.slice A ys.length cap)).setCell (p := ⟨w.heap.size + 1, 0, none⟩) (Nat.le_succ _) (.int .i64 0)).setCell (p := ⟨w.heap.size + 1 + 1, 0, none⟩) (by show w.heap.size ≤ w.heap.size + 1 + 1; omega) (.int .i64 0)
    have GK := (((KeepsOthers.setCell W ⟨w.heap.size, 0, none⟩ (.slice A ys.length cap)).trans (KeepsOthers.setCell _ ⟨w.heap.size + 1, 0, none⟩ (.int .i64 0))).trans (KeepsOthers.setCell _ ⟨w.heap.size + 1 + 1, 0, none⟩ (.int .i64 0))).same D _ hK rfl
    have r1 := hrow.kept (grownBy_setCell' W w.heap.size (.slice A ys.length cap)) (.inr (h1.not_row (by decide) hrow).symm)
    have r2 := r1.kept (grownBy_setCell' _ (w.heap.size + 1) (.int .i64 0)) (.inr ((h2.other (show w.heap.size + 1 ≠ w.heap.size by omega) (.slice A ys.length cap)).not_row (by decide) r1).symm)
    have r3 := r2.kept (grownBy_setCell' _ (w.heap.size + 1 + 1) (.int .i64 0)) (.inr (((h3.other (show w.heap.size + 1 + 1 ≠ w.heap.size by omega) (.slice A ys.length cap)).other (show w.heap.size + 1 + 1 ≠ w.heap.size + 1 by omega) (.int .i64 0)).not_row (by decide) r2).symm)
    have GG := Lib.hid (And.intro G1 (And.intro G2 (And.intro G3 (And.intro GB (And.intro GK r3)))))
    clear G1 G2 G3 GB GK r1 r2 r3 hpl hrow hB hp hnil hS h1 h2 h3 h4 hv hB5 b0 b1 b2 b3 b4 HI
    gi_wp2
    obtain ⟨G1, G2, G3, GB, GK, r3⟩ := GG.out
    refine ⟨by simp, .inl ⟨_, _, rfl, run_takeDeferred GK, ?_⟩⟩
    have keep : ∀ (B : Nat) (ty : TypeId) (u : Value), Boxed _ B ty u → Boxed _ B ty u := fun B ty u h => boxed_own B ty (fun _ : Unit => u) () _ _ (some D) h (grownBy_putObj' _ D (.deferred none)) (fun r e => by cases e; exact ⟨_, GK, rfl⟩)
    rw [HPL.out]
    refine ⟨_, parse_told _ _ w.heap.size (w.heap.size + 1) (w.heap.size + 1 + 1) A ys.length cap 0 0 rfl rfl rfl (keep _ _ _ G1).cell (keep _ _ _ G2).cell (keep _ _ _ G3).cell, _, rfl, ?_, GB.trans (belowK_b (w := w) (Nat.le_refl _) _ D _ _ (by omega) GK rfl rfl)⟩
    rw [hil]
    exact OwnG.of (ownsRow_putObj r3 _ GK rfl)
  case stop =>
    rintro D c pre W hD hSp ⟨rfl, q, p, rfl, he, ⟨⟨h1, h2⟩, h3⟩, h4⟩ hK
    have HPL := Lib.hid (begins_err hSp he)
    clear hB5 b0 b1 b2 b3 b4 HI
    gi_wp2
    refine ⟨by simp, .inl ⟨_, _, rfl, run_takeDeferred hK, ?_⟩⟩
    have keep : ∀ (B : Nat) (ty : TypeId) (u : Value), Boxed W B ty u → Boxed (W.putObj D (.deferred none)) B ty u := fun B ty u h => boxed_own B ty (fun _ : Unit => u) () _ _ (some D) h (grownBy_putObj' _ D (.deferred none)) (fun r e => by cases e; exact ⟨_, hK, rfl⟩)
    rw [HPL.out]
    exact ⟨_, parse_told _ _ w.heap.size (w.heap.size + 1) (w.heap.size + 1 + 1) none 0 0 (p : Int) (errL (L.drop p) : Nat) rfl rfl rfl (keep _ _ _ h1).cell (keep _ _ _ h2).cell (keep _ _ _ h3).cell, _, rfl, OwnG.nil _ _ _ _, h4.trans (belowK_b (w := w) (Nat.le_refl _) _ D _ _ (by omega) hK rfl rfl)⟩
theorem parse_any (s : ByteArray) (hs : s.size ≤ 1000000) (w : World) :
    Calls Tryz.prog 116 #[.string s] w fun e w' => ∃ v, e = .returned (.tuple #[v, .int .i64 ((parseB s).2.1 : Nat), .int .i64 ((parseB s).2.2 : Nat)]) ∧ OwnG w' w.heap.size 86 2 v (parseB s).1.length (flatI (parseB s).1) ∧ Below w.heap.size w w' :=
  callsIn_wide.1 (parse_in s hs w)
end Go.Proofs.YtlbaockipeojhaaGreat
