/-
  The chapter's examples of layer 5: the program answers them as the document says.
-/
import Derived.Test.YtgodhbliamlclaaDoorAddr
namespace Go.Proofs.YtgodhbliamlclaaDoor
open Go.RowKit
set_option linter.unusedVariables false

def sixBytes : ByteArray := ⟨#[32, 1, 13, 184, 0, 0, 0, 0, 0, 0, 0, 0, 0, 0, 0, 1]⟩
def fourBytes : ByteArray := ⟨#[10, 0, 0, 1]⟩
def headBytes : ByteArray := ⟨#[69, 0, 0, 115, 0, 0, 64, 0, 64, 17, 0, 0, 192, 168, 0, 1, 192, 168, 0, 199]⟩
def sixText : ByteArray := ⟨#[50, 48, 48, 49, 58, 100, 98, 56, 58, 48, 58, 48, 58, 48, 58, 48, 58, 48, 58, 49]⟩
def fourText : ByteArray := ⟨#[49, 48, 46, 48, 46, 48, 46, 49]⟩
/-- The numbers' texts. -/
def sixWord (k : Nat) : ByteArray := if k = 0 then ⟨#[50, 48, 48, 49]⟩ else if k = 1 then ⟨#[100, 98, 56]⟩ else if k = 7 then ⟨#[49]⟩ else ⟨#[48]⟩
def fourWord (k : Nat) : ByteArray := if k = 0 then ⟨#[49, 48]⟩ else if k = 3 then ⟨#[49]⟩ else ⟨#[48]⟩
theorem head_sum : sumB headBytes = 47201 := by decide
theorem dec_small (i : Nat) (h : i < 10) : Lib.decDigits i = [UInt8.ofNat (48 + i)] := by unfold Lib.decDigits; rw [dif_pos h]
theorem dec_ten : Lib.decDigits 10 = [49, 48] := by unfold Lib.decDigits; rw [dif_neg (by omega), dec_small _ (by omega)]; rfl
theorem four_words (j : Nat) (W : World) (hj : j < 4) : Calls Tryd.prog 27 #[.int .i64 (byteAt fourBytes.data.toList j : Nat)] W fun e w' => e = .returned (.string (fourWord j)) ∧ w' = W := by
  have h0 := Tryd.strconv_Itoa_small 0 (by omega) W
  have h1 := Tryd.strconv_Itoa_small 1 (by omega) W
  have h10 := Tryd.strconv_Itoa_small 10 (by omega) W
  rw [dec_small 0 (by omega)] at h0
  rw [dec_small 1 (by omega)] at h1
  rw [dec_ten] at h10
  match j, hj with
  | 0, _ => exact h10
  | 1, _ => exact h0
  | 2, _ => exact h0
  | 3, _ => exact h1
theorem six_words (j : Nat) (W : World) (hj : j < 8) (hK : Kub W) : Calls Tryd.prog 29 #[.int .i64 (num sixBytes.data.toList (2 * j) : Nat), .int .i64 16] W fun e w' => e = .returned (.string (sixWord j)) ∧ Below W.heap.size W w' := by
  match j, hj with
  | 0, _ => exact fi_n2001 W hK
  | 1, _ => exact fi_ndb8 W hK
  | 2, _ => exact fi_n0 W hK
  | 3, _ => exact fi_n0 W hK
  | 4, _ => exact fi_n0 W hK
  | 5, _ => exact fi_n0 W hK
  | 6, _ => exact fi_n0 W hK
  | 7, _ => exact fi_n1 W hK
theorem four_join : Lib.join (((List.range 4).map fourWord).map (·.data.toList)) (⟨#[46]⟩ : ByteArray).data.toList = [49, 48, 46, 48, 46, 48, 46, 49] := by decide
theorem six_join : Lib.join (((List.range 8).map sixWord).map (·.data.toList)) (⟨#[58]⟩ : ByteArray).data.toList = [50, 48, 48, 49, 58, 100, 98, 56, 58, 48, 58, 48, 58, 48, 58, 48, 58, 48, 58, 49] := by decide
theorem text_ten (w : World) : Calls Tryd.prog 17 #[.string ⟨#[10, 0, 0, 1]⟩] w fun e w' => e = .returned (.string fourText) ∧ Below w.heap.size w w' := by
  have h := text_four fourBytes rfl fourWord four_words (by rw [four_join]; decide) w
  rw [four_join] at h
  exact h
theorem text_six (w : World) (hK : Kub w) : Calls Tryd.prog 17 #[.string ⟨#[32, 1, 13, 184, 0, 0, 0, 0, 0, 0, 0, 0, 0, 0, 0, 1]⟩] w fun e w' => e = .returned (.string sixText) ∧ Below w.heap.size w w' := by
  have h := text_sixteen sixBytes rfl sixWord six_words (by rw [six_join]; decide) w hK
  rw [six_join] at h
  exact h
theorem check_head (w : World) : Calls Tryd.prog 14 #[.string ⟨#[69, 0, 0, 115, 0, 0, 64, 0, 64, 17, 0, 0, 192, 168, 0, 1, 192, 168, 0, 199]⟩] w fun e w' => e = .returned (.int .u16 47201) ∧ Below w.heap.size w w' := by
  have h := check16_any headBytes (by decide) w
  rw [head_sum] at h
  exact h
set_option maxHeartbeats 1000000 in
set_option maxRecDepth 100000 in
theorem shown_any (w : World) (hK : Kub w) : Calls Tryd.prog 7 #[] w fun e w' => e = .returned (.bool true) ∧ Below w.heap.size w w' := by
  have HB := Lib.hid (Below.refl w.heap.size w)
  have HK := Lib.hid hK
  clear hK
  have h1 : fourText.toList = [49, 48, 46, 48, 46, 48, 46, 49] := by rw [ByteArray.toList_eq]; rfl
  have h2 : sixText.toList = [50, 48, 48, 49, 58, 100, 98, 56, 58, 48, 58, 48, 58, 48, 58, 48, 58, 48, 58, 49] := by rw [ByteArray.toList_eq]; rfl
  go_enter Tryd.func7, Tryd.ntmps7
  go_wp2_with (first
    | (go_at_call 14; ((with_reducible refine (check_head _).mono ?_); rintro e w1 ⟨rfl, hb1⟩); replace HB := Lib.hid (HB.out.trans (hb1.mono HB.out.size)); clear hb1)
    | (go_at_call 17; ((with_reducible refine (text_ten _).mono ?_); rintro e w1 ⟨rfl, hb1⟩); replace HB := Lib.hid (HB.out.trans (hb1.mono HB.out.size)); clear hb1)
    | (go_at_call 17; ((with_reducible refine (text_six _ (HK.out.later HB.out)).mono ?_); rintro e w1 ⟨rfl, hb1⟩); replace HB := Lib.hid (HB.out.trans (hb1.mono HB.out.size)); clear hb1))
  go_ret
  exact ⟨rfl, HB.out⟩
end Go.Proofs.YtgodhbliamlclaaDoor
