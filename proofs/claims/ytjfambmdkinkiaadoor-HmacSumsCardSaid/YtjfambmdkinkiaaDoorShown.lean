/-
  The chapter's example of layer 4: the program answers it as the document says.
-/
import Derived.Test.YtjfambmdkinkiaaDoorHmac
namespace Go.Proofs.YtjfambmdkinkiaaDoor
open Go.RowKit
set_option linter.unusedVariables false

def jefeKey : ByteArray := ⟨#[74, 101, 102, 101]⟩
def jefeText : ByteArray := ⟨#[119, 104, 97, 116, 32, 100, 111, 32, 121, 97, 32, 119, 97, 110, 116, 32, 102, 111, 114, 32, 110, 111, 116, 104, 105, 110, 103, 63]⟩
def jefeList : List UInt8 := [0x5b, 0xdc, 0xc1, 0x46, 0xbf, 0x60, 0x75, 0x4e, 0x6a, 0x04, 0x24, 0x26, 0x08, 0x95, 0x75, 0xc7, 0x5a, 0x00, 0x3f, 0x08, 0x9d, 0x27, 0x39, 0x83, 0x9d, 0xec, 0x58, 0xb9, 0x64, 0xec, 0x38, 0x43]
def jefeSum : ByteArray := ⟨jefeList.toArray⟩
/-- The two texts that are digested, as lists. -/
theorem jefe_inner : digest (((List.range 64).map fun i => [74, 101, 102, 101].getD i 0 ^^^ (54 : UInt8)) ++ [119, 104, 97, 116, 32, 100, 111, 32, 121, 97, 32, 119, 97, 110, 116, 32, 102, 111, 114, 32, 110, 111, 116, 104, 105, 110, 103, 63])
    = [162, 228, 133, 134, 61, 39, 249, 216, 100, 172, 141, 128, 36, 50, 161, 237, 71, 125, 140, 76, 111, 52, 157, 22, 212, 231, 233, 23, 198, 41, 202, 215] := by decide +kernel
theorem jefe_outer : digest (((List.range 64).map fun i => [74, 101, 102, 101].getD i 0 ^^^ (92 : UInt8)) ++ [162, 228, 133, 134, 61, 39, 249, 216, 100, 172, 141, 128, 36, 50, 161, 237, 71, 125, 140, 76, 111, 52, 157, 22, 212, 231, 233, 23, 198, 41, 202, 215]) = jefeList := by decide +kernel
theorem hmac_list (key s : ByteArray) (hk : ¬ 64 < key.size) (K S D R : List UInt8) (h1 : key.data.toList = K) (h2 : s.data.toList = S) (h3 : digest (((List.range 64).map fun i => K.getD i 0 ^^^ (54 : UInt8)) ++ S) = D)
    (h4 : digest (((List.range 64).map fun i => K.getD i 0 ^^^ (92 : UInt8)) ++ D) = R) : hmacOf key s = ⟨R.toArray⟩ := by
  subst h1
  subst h2
  have e : ∀ x, (blockOf key x).data.toList = (List.range 64).map fun i => key.data.toList.getD i 0 ^^^ x := fun x => by
    unfold blockOf
    rw [keyText_short hk]
    rfl
  have hd : (digestOf (blockOf key 54 ++ s)).data.toList = D := by
    rw [← h3, ← e 54, ← Array.toList_append, ← ByteArray.data_append]
    rfl
  apply bytes_ext
  show digest (blockOf key 92 ++ digestOf (blockOf key 54 ++ s)).data.toList = R
  rw [ByteArray.data_append, Array.toList_append, hd, e 92]
  exact h4
theorem jefe_sum : hmacOf jefeKey jefeText = jefeSum :=
  hmac_list jefeKey jefeText (by decide) [74, 101, 102, 101] [119, 104, 97, 116, 32, 100, 111, 32, 121, 97, 32, 119, 97, 110, 116, 32, 102, 111, 114, 32, 110, 111, 116, 104, 105, 110, 103, 63] [162, 228, 133, 134, 61, 39, 249, 216, 100, 172, 141, 128, 36, 50, 161, 237, 71, 125, 140, 76, 111, 52, 157, 22, 212, 231, 233, 23, 198, 41, 202, 215] jefeList rfl rfl jefe_inner jefe_outer
theorem hsum_jefe (w : World) (hK : Kub w) : Calls Tryd.prog 9 #[.string ⟨#[74, 101, 102, 101]⟩, .string ⟨#[119, 104, 97, 116, 32, 100, 111, 32, 121, 97, 32, 119, 97, 110, 116, 32, 102, 111, 114, 32, 110, 111, 116, 104, 105, 110, 103, 63]⟩] w fun e w' => e = .returned (.string jefeSum) ∧ Below w.heap.size w w' := by
  have h := hsum_any jefeKey jefeText (by decide) (by decide) w hK
  rw [jefe_sum] at h
  exact h
set_option maxHeartbeats 1000000 in
set_option maxRecDepth 100000 in
theorem shown_any (w : World) (hK : Kub w) : Calls Tryd.prog 7 #[] w fun e w' => e = .returned (.bool true) ∧ Below w.heap.size w w' := by
  have HB := Lib.hid (Below.refl w.heap.size w)
  have HK := Lib.hid hK
  clear hK
  have h1 : jefeSum.toList = [91, 220, 193, 70, 191, 96, 117, 78, 106, 4, 36, 38, 8, 149, 117, 199, 90, 0, 63, 8, 157, 39, 57, 131, 157, 236, 88, 185, 100, 236, 56, 67] := by rw [ByteArray.toList_eq]; rfl
  go_enter Tryd.func7, Tryd.ntmps7
  go_wp2_with (go_at_call 9; ((with_reducible refine (hsum_jefe _ HK.out).mono ?_); rintro e w1 ⟨rfl, hb1⟩); replace HB := Lib.hid (HB.out.trans (hb1.mono HB.out.size)); clear hb1)
  go_ret
  exact ⟨rfl, HB.out⟩
end Go.Proofs.YtjfambmdkinkiaaDoor
