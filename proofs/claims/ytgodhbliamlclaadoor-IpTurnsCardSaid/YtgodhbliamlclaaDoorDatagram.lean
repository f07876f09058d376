/-
  Package ip: the bytes of a datagram, one by one; one of them turned: plain facts.
-/
import Derived.Test.YtgodhbliamlclaaDoorBuild
namespace Go.Proofs.YtgodhbliamlclaaDoor
set_option linter.unusedVariables false

theorem app_lists (a b : ByteArray) : (a ++ b).data.toList = a.data.toList ++ b.data.toList := by rw [ByteArray.data_append, Array.toList_append]
theorem ext_list (s : ByteArray) (a b : Nat) : (s.extract a b).data.toList = (s.data.toList.drop a).take (b - a) := by
  rw [ByteArray.data_extract, Array.toList_extract, List.extract_eq_take_drop]
theorem num_at (a b : UInt8) (m : List UInt8) : num (a :: b :: m) 0 = a.toNat * 256 + b.toNat := rfl
theorem num_two (a b : UInt8) (m : List UInt8) (k : Nat) : num (a :: b :: m) (k + 2) = num m k := rfl
theorem byte_two (a b : UInt8) (m : List UInt8) (k : Nat) : byteAt (a :: b :: m) (k + 2) = byteAt m k := rfl
theorem hi_lo (n : Nat) (h : n < 65536) : (UInt8.ofNat (n / 256)).toNat * 256 + (UInt8.ofNat n).toNat = n := num_be16 h

/-- The list of a datagram of V4, of V6. -/
theorem head4_list (hops mark : Nat) (hh : hops < 256) (f t : ByteArray) (n : Nat) (s : ByteArray) : (head4 hops mark f t n ++ s).data.toList =
    be16 17664 ++ (be16 (20 + n) ++ (be16 mark ++ (be16 16384 ++ ([UInt8.ofNat hops, 132] ++ (be16 (ckB (ahead4 hops mark n) (f ++ t)) ++ (f.data.toList ++ (t.data.toList ++ s.data.toList))))))) := by
  unfold head4
  generalize ckB (ahead4 hops mark n) (f ++ t) = c
  unfold ahead4
  simp only [app_lists]
  show be16 17664 ++ be16 (20 + n) ++ be16 mark ++ be16 16384 ++ be16 (hops * 256 + 132) ++ be16 c ++ (f.data.toList ++ t.data.toList) ++ s.data.toList = _
  have e : be16 (hops * 256 + 132) = [UInt8.ofNat hops, 132] := by
    unfold be16
    rw [show (hops * 256 + 132) / 256 = hops by omega, ← ofNat_mod (hops * 256 + 132), show (hops * 256 + 132) % 256 = 132 by omega]
    rfl
  rw [e]
  simp only [List.append_assoc]
theorem head6_list (hops : Nat) (hh : hops < 256) (f t : ByteArray) (n : Nat) (s : ByteArray) : (head6 hops f t n ++ s).data.toList =
    be16 24576 ++ (be16 0 ++ (be16 n ++ ([132, UInt8.ofNat hops] ++ (f.data.toList ++ (t.data.toList ++ s.data.toList))))) := by
  unfold head6
  simp only [app_lists]
  show be16 24576 ++ be16 0 ++ be16 n ++ be16 (33792 + hops) ++ f.data.toList ++ t.data.toList ++ s.data.toList = _
  have e : be16 (33792 + hops) = [132, UInt8.ofNat hops] := by
    unfold be16
    rw [show (33792 + hops) / 256 = 132 by omega, ← ofNat_mod (33792 + hops), show (33792 + hops) % 256 = hops by omega]
    rfl
  rw [e]
  simp only [List.append_assoc]

section
variable {hops mark n : Nat} {f t s : ByteArray}
/-- What is read of a datagram of V4. -/
theorem read4 (hh : hops < 256) (hm : mark < 65536) (hf : f.size = 4) (ht : t.size = 4) (hn : s.size = n) (hl : n ≤ 1500) :
    num (head4 hops mark f t n ++ s).data.toList 0 = 17664 ∧ num (head4 hops mark f t n ++ s).data.toList 2 = 20 + n ∧ num (head4 hops mark f t n ++ s).data.toList 4 = mark ∧ num (head4 hops mark f t n ++ s).data.toList 6 = 16384 ∧
    byteAt (head4 hops mark f t n ++ s).data.toList 8 = hops ∧ byteAt (head4 hops mark f t n ++ s).data.toList 9 = 132 ∧ num (head4 hops mark f t n ++ s).data.toList 10 = ckB (ahead4 hops mark n) (f ++ t) := by
  rw [head4_list hops mark hh]
  have hc := ckB_lt (ahead4 hops mark n) (f ++ t)
  generalize ckB (ahead4 hops mark n) (f ++ t) = c at *
  refine ⟨hi_lo 17664 (by omega), hi_lo (20 + n) (by omega), hi_lo mark hm, hi_lo 16384 (by omega), ?_, rfl, hi_lo c hc⟩
  exact UInt8.toNat_ofNat_of_lt' hh
theorem cut4 (hh : hops < 256) (hf : f.size = 4) (ht : t.size = 4) (hn : s.size = n) :
    (head4 hops mark f t n ++ s).extract 0 10 = ahead4 hops mark n ∧ (head4 hops mark f t n ++ s).extract 12 20 = f ++ t ∧ cutB (head4 hops mark f t n ++ s) 12 4 = f ∧ cutB (head4 hops mark f t n ++ s) 16 4 = t ∧
    cutB (head4 hops mark f t n ++ s) 20 n = s ∧ (head4 hops mark f t n ++ s).extract 0 20 = head4 hops mark f t n := by
  have lf : f.data.toList.length = 4 := by rw [← size_list]; exact hf
  have lt : t.data.toList.length = 4 := by rw [← size_list]; exact ht
  have ls : s.data.toList.length = n := by rw [← size_list]; exact hn
  have la : (ahead4 hops mark n).data.toList.length = 10 := by rw [← size_list]; unfold ahead4; simp only [ByteArray.size_append, twoB_size]
  have E : (head4 hops mark f t n ++ s).data.toList = (ahead4 hops mark n).data.toList ++ ((twoB (ckB (ahead4 hops mark n) (f ++ t))).data.toList ++ (f.data.toList ++ (t.data.toList ++ s.data.toList))) := by
    unfold head4
    simp only [app_lists, List.append_assoc]
  have lc : (twoB (ckB (ahead4 hops mark n) (f ++ t))).data.toList.length = 2 := rfl
  have eh : (head4 hops mark f t n).data.toList = (ahead4 hops mark n).data.toList ++ ((twoB (ckB (ahead4 hops mark n) (f ++ t))).data.toList ++ (f.data.toList ++ t.data.toList)) := by
    unfold head4
    simp only [app_lists, List.append_assoc]
  generalize (twoB (ckB (ahead4 hops mark n) (f ++ t))).data.toList = C at *
  have d12 : (head4 hops mark f t n ++ s).data.toList.drop 12 = f.data.toList ++ (t.data.toList ++ s.data.toList) := by
    rw [E, ← List.append_assoc]
    exact List.drop_left' (by rw [List.length_append]; omega)
  have d16 : (head4 hops mark f t n ++ s).data.toList.drop 16 = t.data.toList ++ s.data.toList := by
    rw [show 16 = 12 + 4 from rfl, ← List.drop_drop, d12]
    exact List.drop_left' lf
  have d20 : (head4 hops mark f t n ++ s).data.toList.drop 20 = s.data.toList := by
    rw [show 20 = 16 + 4 from rfl, ← List.drop_drop, d16]
    exact List.drop_left' lt
  refine ⟨bytes_ext ?_, bytes_ext ?_, bytes_ext ?_, bytes_ext ?_, bytes_ext ?_, bytes_ext ?_⟩
  · rw [ext_list, List.drop_zero, E]
    exact List.take_left' la
  · rw [ext_list, d12, app_lists, ← List.append_assoc]
    exact List.take_left' (by rw [List.length_append]; omega)
  · rw [cut_list, d12]
    exact List.take_left' lf
  · rw [cut_list, d16]
    exact List.take_left' lt
  · rw [cut_list, d20]
    exact List.take_of_length_le (by omega)
  · rw [ext_list, List.drop_zero, E, eh]
    rw [show (ahead4 hops mark n).data.toList ++ (C ++ (f.data.toList ++ (t.data.toList ++ s.data.toList))) = ((ahead4 hops mark n).data.toList ++ (C ++ (f.data.toList ++ t.data.toList))) ++ s.data.toList by simp only [List.append_assoc]]
    exact List.take_left' (by simp only [List.length_append]; omega)
theorem read6 (hh : hops < 256) (hl : n ≤ 1500) :
    num (head6 hops f t n ++ s).data.toList 0 = 24576 ∧ num (head6 hops f t n ++ s).data.toList 2 = 0 ∧ num (head6 hops f t n ++ s).data.toList 4 = n ∧ byteAt (head6 hops f t n ++ s).data.toList 6 = 132 ∧ byteAt (head6 hops f t n ++ s).data.toList 7 = hops := by
  rw [head6_list hops hh]
  refine ⟨hi_lo 24576 (by omega), hi_lo 0 (by omega), hi_lo n (by omega), rfl, ?_⟩
  exact UInt8.toNat_ofNat_of_lt' hh
theorem cut6 (hh : hops < 256) (hf : f.size = 16) (ht : t.size = 16) (hn : s.size = n) :
    cutB (head6 hops f t n ++ s) 8 16 = f ∧ cutB (head6 hops f t n ++ s) 24 16 = t ∧ cutB (head6 hops f t n ++ s) 40 n = s := by
  have lf : f.data.toList.length = 16 := by rw [← size_list]; exact hf
  have lt : t.data.toList.length = 16 := by rw [← size_list]; exact ht
  have ls : s.data.toList.length = n := by rw [← size_list]; exact hn
  have d8 : (head6 hops f t n ++ s).data.toList.drop 8 = f.data.toList ++ (t.data.toList ++ s.data.toList) := by
    rw [head6_list hops hh]
    rfl
  have d24 : (head6 hops f t n ++ s).data.toList.drop 24 = t.data.toList ++ s.data.toList := by
    rw [show 24 = 8 + 16 from rfl, ← List.drop_drop, d8]
    exact List.drop_left' lf
  have d40 : (head6 hops f t n ++ s).data.toList.drop 40 = s.data.toList := by
    rw [show 40 = 24 + 16 from rfl, ← List.drop_drop, d24]
    exact List.drop_left' lt
  refine ⟨bytes_ext ?_, bytes_ext ?_, bytes_ext ?_⟩
  · rw [cut_list, d8]
    exact List.take_left' lf
  · rw [cut_list, d24]
    exact List.take_left' lt
  · rw [cut_list, d40]
    exact List.take_of_length_le (by omega)
end
/-- With its own sum in it a text has the sum 0. -/
theorem chk_own (A B : List UInt8) (hA : A.length % 2 = 0) (hpos : 0 < psum (A ++ (be16 0 ++ B))) : chk (A ++ (be16 (chk (A ++ (be16 0 ++ B))) ++ B)) = 0 := by
  have h0 : psum (A ++ (be16 0 ++ B)) = psum A + psum B := by rw [psum_append _ _ hA, psum_append _ _ (by simp [be16_length]), psum_be16 (by omega)]; omega
  have h1 : psum (A ++ (be16 (chk (A ++ (be16 0 ++ B))) ++ B)) = psum A + (chk (A ++ (be16 0 ++ B)) + psum B) := by
    rw [psum_append _ _ hA, psum_append _ _ (by simp [be16_length]), psum_be16 (chk_lt _)]
  rw [show chk (A ++ (be16 (chk (A ++ (be16 0 ++ B))) ++ B)) = 65535 - fold16 (psum (A ++ (be16 (chk (A ++ (be16 0 ++ B))) ++ B))) from rfl, h1]
  rw [h0] at hpos
  rw [show chk (A ++ (be16 0 ++ B)) = 65535 - fold16 (psum (A ++ (be16 0 ++ B))) from rfl, h0]
  generalize psum A = a at *
  generalize psum B = b at *
  unfold fold16
  rw [if_neg (by omega), if_neg (by omega)]
  omega
theorem head4_sum (hops mark n : Nat) (f t : ByteArray) (hh : hops < 256) : sumB (head4 hops mark f t n) = 0 := by
  have e : (head4 hops mark f t n).data.toList = (ahead4 hops mark n).data.toList ++ (be16 (chk ((ahead4 hops mark n).data.toList ++ (be16 0 ++ (f ++ t).data.toList))) ++ (f ++ t).data.toList) := by
    unfold head4
    have hc : ckB (ahead4 hops mark n) (f ++ t) = chk ((ahead4 hops mark n).data.toList ++ (be16 0 ++ (f ++ t).data.toList)) := by
      unfold ckB sumB
      rw [app_lists, app_lists, List.append_assoc]
      rfl
    rw [app_lists, app_lists, hc, List.append_assoc]
    rfl
  unfold sumB
  rw [e]
  refine chk_own _ _ ?_ ?_
  · rw [← size_list]; unfold ahead4; simp only [ByteArray.size_append, twoB_size]
  · have e2 : (ahead4 hops mark n).data.toList = be16 17664 ++ (be16 (20 + n) ++ be16 mark ++ be16 16384 ++ be16 (hops * 256 + 132)) := by
      unfold ahead4
      simp only [app_lists]
      show be16 17664 ++ be16 (20 + n) ++ be16 mark ++ be16 16384 ++ be16 (hops * 256 + 132) = _
      simp only [List.append_assoc]
    rw [e2, List.append_assoc, psum_append _ _ (by rfl), psum_be16 (by omega)]
    omega
end Go.Proofs.YtgodhbliamlclaaDoor
