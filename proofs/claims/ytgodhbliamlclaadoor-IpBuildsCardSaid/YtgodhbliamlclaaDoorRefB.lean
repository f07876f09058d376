/-
  The document's answer to layer 5: datagrams built: contracts.
-/
import Derived.Test.YtgodhbliamlclaaDoorBuilt
namespace Go.Proofs.YtgodhbliamlclaaDoor
open Go.RowKit
set_option linter.unusedVariables false

theorem rtwo_seen {wc : World} {g : Nat} {ty : TypeId} {ver hops mark : Int} {f t : ByteArray} (n : Nat) (hn : n < 65536) (z : Int) (hz : z = (n : Int)) (W : World) (h : Hid (Stays wc g ty ver hops mark f t W)) :
    Calls Tryd.prog 20 #[.int .i64 z] W fun e w' => e = .returned (.string (twoB n)) ∧ Seen wc g ty ver hops mark f t w' := by
  subst hz
  exact (rtwo_any n hn W).mono fun e w' ⟨he, hb⟩ => ⟨he, (h.out.next hb).seen⟩
theorem rone_seen {wc : World} {g : Nat} {ty : TypeId} {ver hops mark : Int} {f t : ByteArray} (n : Nat) (hn : n < 256) (z : Int) (hz : z = (n : Int)) (W : World) (h : Hid (Stays wc g ty ver hops mark f t W)) :
    Calls Tryd.prog 21 #[.int .i64 z] W fun e w' => e = .returned (.string (oneB n)) ∧ Seen wc g ty ver hops mark f t w' := by
  subst hz
  exact (rone_any n hn W).mono fun e w' ⟨he, hb⟩ => ⟨he, (h.out.next hb).seen⟩
theorem app_list (a b : ByteArray) : (a ++ b).data.toList = a.data.toList ++ b.data.toList := by rw [ByteArray.data_append, Array.toList_append]
theorem be16_two (h b : Nat) (hb : b < 256) : be16 (h * 256 + b) = [UInt8.ofNat h, UInt8.ofNat b] := by
  unfold be16
  rw [show (h * 256 + b) / 256 = h by omega, ← ofNat_mod (h * 256 + b), show (h * 256 + b) % 256 = b by omega]
theorem ahead4_ref (hops mark n : Nat) : (⟨#[69, 0]⟩ : ByteArray) ++ twoB (20 + n) ++ twoB mark ++ ⟨#[64, 0]⟩ ++ oneB hops ++ oneB 132 = ahead4 hops mark n := by
  apply bytes_ext
  unfold ahead4
  simp only [app_list]
  show [69, 0] ++ be16 (20 + n) ++ be16 mark ++ [64, 0] ++ [UInt8.ofNat hops] ++ [UInt8.ofNat 132] = be16 17664 ++ be16 (20 + n) ++ be16 mark ++ be16 16384 ++ be16 (hops * 256 + 132)
  rw [be16_two hops 132 (by omega), show be16 17664 = [69, 0] from by decide, show be16 16384 = [64, 0] from by decide]
  simp only [List.append_assoc, List.cons_append, List.nil_append]
theorem two_nought : (⟨#[0, 0]⟩ : ByteArray) = twoB 0 := rfl
theorem head4_ref (hops mark : Nat) (f t : ByteArray) (n : Nat) (s : ByteArray) : ahead4 hops mark n ++ twoB (ckB (ahead4 hops mark n) (f ++ t)) ++ (f ++ t) ++ s = head4 hops mark f t n ++ s := rfl
theorem head6_ref (hops : Nat) (hh : hops < 256) (f t : ByteArray) (n : Nat) (s : ByteArray) : (⟨#[96, 0, 0, 0]⟩ : ByteArray) ++ twoB n ++ oneB 132 ++ oneB hops ++ f ++ t ++ s = head6 hops f t n ++ s := by
  apply bytes_ext
  unfold head6
  simp only [app_list]
  show [96, 0, 0, 0] ++ be16 n ++ [UInt8.ofNat 132] ++ [UInt8.ofNat hops] ++ f.data.toList ++ t.data.toList ++ s.data.toList = be16 24576 ++ be16 0 ++ be16 n ++ be16 (33792 + hops) ++ f.data.toList ++ t.data.toList ++ s.data.toList
  have e : be16 (33792 + hops) = [UInt8.ofNat 132, UInt8.ofNat hops] := by
    have := be16_two 132 hops hh
    rw [show 132 * 256 + hops = 33792 + hops by omega] at this
    exact this
  rw [e, show be16 24576 = [96, 0] from by decide, show be16 0 = [0, 0] from by decide]
  simp only [List.append_assoc, List.cons_append, List.nil_append]

set_option maxHeartbeats 2000000 in
theorem rbuild_arg (ver hops mark : Int) (f t s : ByteArray) (hright : rightB ver hops mark f.size t.size = false) (w : World) :
    Calls Tryd.prog 10 #[.agg #[.int .i64 ver, .int .i64 hops, .int .i64 mark, .string f, .string t], .string s] w fun e w' => e = .returned (.tuple #[.string ⟨#[]⟩, .int .i64 1]) ∧ Below w.heap.size w w' := by
  have HB := Lib.hid ((Below.refl w.heap.size w).alloc (Nat.le_refl _) (.cells #[.int .i64 ver, .int .i64 hops, .int .i64 mark, .string f, .string t] 30))
  have HH : Hid (HdrAt (w.alloc (.cells #[.int .i64 ver, .int .i64 hops, .int .i64 mark, .string f, .string t] 30)) w.heap.size 30 ver hops mark f t) := Lib.hid (heap_alloc_new _ _)
  have hr := fun W => rright_any ver hops mark f t W
  rw [hright] at hr
  have HRT := Lib.hid hr
  clear hr hright
  go_enter Tryd.func10, Tryd.ntmps10
  go_wp2_with (first
    | (go_at_call 13; go_loud (((with_reducible refine (HRT.out _).mono ?_); rintro e w1 ⟨rfl, hb1⟩); have HS := Lib.hid (HdrAt.later HH.out hb1); have k0 := HdrAt.c0 HS.out; have k1 := HdrAt.c1 HS.out; have k2 := HdrAt.c2 HS.out; have k3 := HdrAt.c3 HS.out; have k4 := HdrAt.c4 HS.out; replace HB := Lib.hid (HB.out.trans (hb1.mono HB.out.size)); clear hb1)))
  go_ret2
  exact ⟨rfl, HB.out⟩
set_option maxHeartbeats 2000000 in
theorem rbuild_long (ver hops mark : Int) (f t s : ByteArray) (hright : rightB ver hops mark f.size t.size = true) (hl : (1500 : Int) < (s.size : Int)) (w : World) :
    Calls Tryd.prog 10 #[.agg #[.int .i64 ver, .int .i64 hops, .int .i64 mark, .string f, .string t], .string s] w fun e w' => e = .returned (.tuple #[.string ⟨#[]⟩, .int .i64 4]) ∧ Below w.heap.size w w' := by
  have HB := Lib.hid ((Below.refl w.heap.size w).alloc (Nat.le_refl _) (.cells #[.int .i64 ver, .int .i64 hops, .int .i64 mark, .string f, .string t] 30))
  have HH : Hid (HdrAt (w.alloc (.cells #[.int .i64 ver, .int .i64 hops, .int .i64 mark, .string f, .string t] 30)) w.heap.size 30 ver hops mark f t) := Lib.hid (heap_alloc_new _ _)
  have hr := fun W => rright_any ver hops mark f t W
  rw [hright] at hr
  have HRT := Lib.hid hr
  clear hr hright
  go_enter Tryd.func10, Tryd.ntmps10
  go_wp2_with (first
    | (go_at_call 13; go_loud (((with_reducible refine (HRT.out _).mono ?_); rintro e w1 ⟨rfl, hb1⟩); have HS := Lib.hid (HdrAt.later HH.out hb1); have k0 := HdrAt.c0 HS.out; have k1 := HdrAt.c1 HS.out; have k2 := HdrAt.c2 HS.out; have k3 := HdrAt.c3 HS.out; have k4 := HdrAt.c4 HS.out; replace HB := Lib.hid (HB.out.trans (hb1.mono HB.out.size)); clear hb1)))
  go_ret2
  exact ⟨rfl, HB.out⟩
set_option maxHeartbeats 4000000 in
theorem rbuild_v4 (hops mark : Nat) (hh : hops < 256) (hm : mark < 65536) (f t s : ByteArray) (hf : f.size = 4) (ht : t.size = 4) (hl : s.size ≤ 1500) (w : World) :
    Calls Tryd.prog 10 #[.agg #[.int .i64 4, .int .i64 hops, .int .i64 mark, .string f, .string t], .string s] w fun e w' => e = .returned (.tuple #[.string (head4 hops mark f t s.size ++ s), .int .i64 0]) ∧ Below w.heap.size w w' := by
  have HB := Lib.hid ((Below.refl w.heap.size w).alloc (Nat.le_refl _) (.cells #[.int .i64 4, .int .i64 hops, .int .i64 mark, .string f, .string t] 30))
  have HH : Hid (HdrAt (w.alloc (.cells #[.int .i64 4, .int .i64 hops, .int .i64 mark, .string f, .string t] 30)) w.heap.size 30 4 hops mark f t) := Lib.hid (heap_alloc_new _ _)
  have hright : rightB 4 hops mark f.size t.size = true := by unfold rightB wB; simp; omega
  have hr := fun W => rright_any 4 hops mark f t W
  rw [hright] at hr
  have HRT := Lib.hid hr
  clear hr hright
  have HR := Lib.hid (head4_ref hops mark f t s.size s)
  rw [← ahead4_ref hops mark s.size] at HR
  have hw1 : IntKind.i64.wrap (20 + (s.size : Int)) = 20 + (s.size : Int) := wrap_i64_id _ (by omega) (by omega)
  have F1 := Lib.hid (fun w1 (u : World) => @rtwo_seen w1 w.heap.size 30 4 hops mark f t (20 + s.size) (by omega) (20 + (s.size : Int)) (by omega) u)
  have F2 := Lib.hid (fun w1 (u : World) => @rtwo_seen w1 w.heap.size 30 4 hops mark f t mark (by omega) (mark : Int) rfl u)
  have F3 := Lib.hid (fun w1 (u : World) => @rone_seen w1 w.heap.size 30 4 hops mark f t hops (by omega) (hops : Int) rfl u)
  have F4 := Lib.hid (fun w1 (u : World) => @rone_seen w1 w.heap.size 30 4 hops mark f t 132 (by omega) 132 rfl u)
  have s1 := Nat.le_of_eq (twoB_size (20 + s.size))
  have s2 := Nat.le_of_eq (twoB_size mark)
  have s3 := Nat.le_of_eq (oneB_size hops)
  have s4 := Nat.le_of_eq (oneB_size 132)
  have hcx : ∀ (x y : ByteArray), x.size ≤ 100 → y.size ≤ 100 → ∀ W, Calls Tryd.prog 15 #[.string (x ++ ⟨#[0, 0]⟩ ++ y)] W fun e w' => e = .returned (.int .u16 (ckB x y : Nat)) ∧ W = w' := fun x y hx hy W => by
    rw [two_nought]
    exact rcheck16_any _ (by simp only [ByteArray.size_append, twoB_size]; omega) W
  generalize head4 hops mark f t s.size ++ s = r at *
  generalize twoB (20 + s.size) = x1 at *
  generalize twoB mark = x2 at *
  generalize oneB hops = x3 at *
  generalize oneB 132 = x4 at *
  have HCX := Lib.hid hcx
  clear hcx
  have hf' := Nat.le_of_eq hf
  have ht' := Nat.le_of_eq ht
  clear hf ht
  have hl' : (s.size : Int) ≤ 1500 := by omega
  have q1 : ¬ 9223372036854775807 < 2 + x1.size := by omega
  have q2 : ¬ 9223372036854775807 < 2 + x1.size + x2.size := by omega
  have q3 : ¬ 9223372036854775807 < 2 + x1.size + x2.size + 2 := by omega
  have q4 : ¬ 9223372036854775807 < 2 + x1.size + x2.size + 2 + x3.size := by omega
  have q5 : ¬ 9223372036854775807 < 2 + x1.size + x2.size + 2 + x3.size + x4.size := by omega
  go_enter Tryd.func10, Tryd.ntmps10
  go_wp2_with (first
    | (go_at_call 13; go_loud (((with_reducible refine (HRT.out _).mono ?_); rintro e w1 ⟨rfl, hb1⟩); have HS := Lib.hid (HdrAt.later HH.out hb1); have k0 := HdrAt.c0 HS.out; have k1 := HdrAt.c1 HS.out; have k2 := HdrAt.c2 HS.out; have k3 := HdrAt.c3 HS.out; have k4 := HdrAt.c4 HS.out; replace HB := Lib.hid (HB.out.trans (hb1.mono HB.out.size)); clear hb1)))
  have HK0 := Lib.hid (Stays.seen (Stays.drew (⟨HS.out, Below.refl w1.heap.size w1⟩ : Stays w1 w.heap.size 30 4 hops mark f t w1)))
  clear k0 k1 k2 k3 k4
  go_region_held3 (Seen w1 w.heap.size 30 4 hops mark f t)
    (first | exact HK0.out | (go_split_ands; refine ⟨?_, ?_, ?_, ?_, ?_⟩ <;> assumption))
    (first
      | (go_at_call 20; go_split_ands; (with_reducible refine (F1.out w1 _ ?_).mono ?_); assumption; rintro e w2 ⟨rfl, k1, k2, k3, k4, k5⟩)
      | (go_at_call 20; go_split_ands; (with_reducible refine (F2.out w1 _ ?_).mono ?_); assumption; rintro e w2 ⟨rfl, k1, k2, k3, k4, k5⟩)
      | (go_at_call 21; go_split_ands; (with_reducible refine (F3.out w1 _ ?_).mono ?_); assumption; rintro e w2 ⟨rfl, k1, k2, k3, k4, k5⟩)
      | (go_at_call 21; go_split_ands; (with_reducible refine (F4.out w1 _ ?_).mono ?_); assumption; rintro e w2 ⟨rfl, k1, k2, k3, k4, k5⟩))
  have HB2 := Lib.hid (HB.out.trans (k5.out.2.mono HB.out.size))
  clear HK0 F1 F2 F3 F4 q1 q2 q3 q4 q5
  have sx : ((⟨#[69, 0]⟩ : ByteArray) ++ x1 ++ x2 ++ ⟨#[64, 0]⟩ ++ x3 ++ x4).size ≤ 100 := by
    simp only [ByteArray.size_append]
    show 2 + x1.size + x2.size + 2 + x3.size + x4.size ≤ 100
    omega
  generalize (⟨#[69, 0]⟩ : ByteArray) ++ x1 ++ x2 ++ ⟨#[64, 0]⟩ ++ x3 ++ x4 = x at *
  have sy : (f ++ t).size ≤ 100 := by rw [ByteArray.size_append]; omega
  have HC := Lib.hid (HCX.out x (f ++ t) sx sy)
  have hck := ckB_lt x (f ++ t)
  have HT2 := Lib.hid (fun W => rtwo_any (ckB x (f ++ t)) hck W)
  have s6 := Nat.le_of_eq (twoB_size (ckB x (f ++ t)))
  generalize ckB x (f ++ t) = c at *
  generalize twoB c = x6 at *
  clear HCX s1 s2 s3 s4 sy k1 k2 k5
  have q0 : ¬ 9223372036854775807 < f.size + t.size := by omega
  have q1 : ¬ 9223372036854775807 < x.size + 2 := by omega
  have q2 : ¬ 9223372036854775807 < x.size + 2 + (f.size + t.size) := by omega
  have q3 : ¬ 9223372036854775807 < x.size + x6.size := by omega
  have q4 : ¬ 9223372036854775807 < x.size + x6.size + (f.size + t.size) := by omega
  have q5 : ¬ 9223372036854775807 < x.size + x6.size + (f.size + t.size) + s.size := by omega
  go_wp2_with (first
    | (go_at_call 15; ((with_reducible refine (HC.out _).mono ?_); rintro e w3 ⟨rfl, rfl⟩))
    | (go_at_call 20; ((with_reducible refine (HT2.out _).mono ?_); rintro e w3 ⟨rfl, hb3⟩); replace HB2 := Lib.hid (HB2.out.trans (hb3.mono HB2.out.size)); clear hb3))
  go_ret2
  exact ⟨by rw [← HR.out]; rfl, HB2.out⟩
set_option maxHeartbeats 4000000 in
theorem rbuild_v6 (hops : Nat) (hh : hops < 256) (f t s : ByteArray) (hf : f.size = 16) (ht : t.size = 16) (hl : s.size ≤ 1500) (w : World) :
    Calls Tryd.prog 10 #[.agg #[.int .i64 6, .int .i64 hops, .int .i64 0, .string f, .string t], .string s] w fun e w' => e = .returned (.tuple #[.string (head6 hops f t s.size ++ s), .int .i64 0]) ∧ Below w.heap.size w w' := by
  have HB := Lib.hid ((Below.refl w.heap.size w).alloc (Nat.le_refl _) (.cells #[.int .i64 6, .int .i64 hops, .int .i64 0, .string f, .string t] 30))
  have HH : Hid (HdrAt (w.alloc (.cells #[.int .i64 6, .int .i64 hops, .int .i64 0, .string f, .string t] 30)) w.heap.size 30 6 hops 0 f t) := Lib.hid (heap_alloc_new _ _)
  have hright : rightB 6 hops 0 f.size t.size = true := by unfold rightB wB; simp; omega
  have hr := fun W => rright_any 6 hops 0 f t W
  rw [hright] at hr
  have HRT := Lib.hid hr
  clear hr hright
  have HR := Lib.hid (head6_ref hops hh f t s.size s)
  have F1 := Lib.hid (fun w1 (u : World) => @rtwo_seen w1 w.heap.size 30 6 hops 0 f t s.size (by omega) (s.size : Int) rfl u)
  have F2 := Lib.hid (fun w1 (u : World) => @rone_seen w1 w.heap.size 30 6 hops 0 f t hops (by omega) (hops : Int) rfl u)
  have F3 := Lib.hid (fun w1 (u : World) => @rone_seen w1 w.heap.size 30 6 hops 0 f t 132 (by omega) 132 rfl u)
  have s1 := Nat.le_of_eq (twoB_size s.size)
  have s2 := Nat.le_of_eq (oneB_size hops)
  have s3 := Nat.le_of_eq (oneB_size 132)
  generalize head6 hops f t s.size ++ s = r at *
  generalize twoB s.size = x1 at *
  generalize oneB hops = x2 at *
  generalize oneB 132 = x3 at *
  have hf' := Nat.le_of_eq hf
  have ht' := Nat.le_of_eq ht
  clear hf ht
  have hl' : (s.size : Int) ≤ 1500 := by omega
  have q1 : ¬ 9223372036854775807 < 4 + x1.size := by omega
  have q2 : ¬ 9223372036854775807 < 4 + x1.size + x3.size := by omega
  have q3 : ¬ 9223372036854775807 < 4 + x1.size + x3.size + x2.size := by omega
  have q4 : ¬ 9223372036854775807 < 4 + x1.size + x3.size + x2.size + f.size := by omega
  have q5 : ¬ 9223372036854775807 < 4 + x1.size + x3.size + x2.size + f.size + t.size := by omega
  have q6 : ¬ 9223372036854775807 < 4 + x1.size + x3.size + x2.size + f.size + t.size + s.size := by omega
  go_enter Tryd.func10, Tryd.ntmps10
  go_wp2_with (first
    | (go_at_call 13; go_loud (((with_reducible refine (HRT.out _).mono ?_); rintro e w1 ⟨rfl, hb1⟩); have HS := Lib.hid (HdrAt.later HH.out hb1); have k0 := HdrAt.c0 HS.out; have k1 := HdrAt.c1 HS.out; have k2 := HdrAt.c2 HS.out; have k3 := HdrAt.c3 HS.out; have k4 := HdrAt.c4 HS.out; replace HB := Lib.hid (HB.out.trans (hb1.mono HB.out.size)); clear hb1)))
  have HK0 := Lib.hid (Stays.seen (Stays.drew (⟨HS.out, Below.refl w1.heap.size w1⟩ : Stays w1 w.heap.size 30 6 hops 0 f t w1)))
  clear k0 k1 k2 k3 k4
  go_region_held3 (Seen w1 w.heap.size 30 6 hops 0 f t)
    (first | exact HK0.out | (go_split_ands; refine ⟨?_, ?_, ?_, ?_, ?_⟩ <;> assumption))
    (first
      | (go_at_call 20; go_split_ands; (with_reducible refine (F1.out w1 _ ?_).mono ?_); assumption; rintro e w2 ⟨rfl, k1, k2, k3, k4, k5⟩)
      | (go_at_call 21; go_split_ands; (with_reducible refine (F2.out w1 _ ?_).mono ?_); assumption; rintro e w2 ⟨rfl, k1, k2, k3, k4, k5⟩)
      | (go_at_call 21; go_split_ands; (with_reducible refine (F3.out w1 _ ?_).mono ?_); assumption; rintro e w2 ⟨rfl, k1, k2, k3, k4, k5⟩))
  have HB2 := Lib.hid (HB.out.trans (k5.out.2.mono HB.out.size))
  go_wp2_with fail
  go_ret2
  exact ⟨by rw [← HR.out]; rfl, HB2.out⟩
end Go.Proofs.YtgodhbliamlclaaDoor
