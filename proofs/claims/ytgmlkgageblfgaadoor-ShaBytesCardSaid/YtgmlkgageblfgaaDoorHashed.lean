/-
  A Hash that a law makes and writes to, and digests as texts of 32 bytes.
-/
import Derived.Test.YtgmlkgageblfgaaDoorShown
namespace Go.Proofs.YtgmlkgageblfgaaDoor
open Go.RowKit
set_option linter.unusedVariables false

/-- Block a, made since w, is a Hash to which l was written. -/
def Hs (w : World) (a : Nat) (l : List UInt8) (wx : World) : Prop := HashB wx a l ∧ Below w.heap.size w wx ∧ w.heap.size ≤ a
theorem Hs.below {w : World} {a : Nat} {l : List UInt8} {wx : World} (h : Hs w a l wx) : Below w.heap.size w wx := h.2.1
theorem Hs.later {w : World} {a : Nat} {l : List UInt8} {wx w' : World} (h : Hs w a l wx) (hb : Below wx.heap.size wx w') : Hs w a l w' :=
  ⟨HashK.keep h.1 (hb.block a h.1.lt), h.2.1.trans (hb.mono h.2.1.size), h.2.2⟩
theorem Hs.wrote {w : World} {a : Nat} {l l' : List UInt8} {wx w' : World} (h : Hs w a l wx) (hN : HashB w' a l') (hg : wx.grownBy w' (some a)) : Hs w a l' w' :=
  ⟨hN, h.2.1.grown hg h.2.1.size fun k hk => by have := Option.some.inj hk; have := h.2.2; omega, h.2.2⟩
theorem Hs.begun {w wx : World} (h : Below w.heap.size w wx) : Hs w wx.heap.size [] (wx.alloc (.cells #[.int .i64 0, .int .u32 0, .int .u32 0, .int .u32 0, .int .u32 0, .int .u32 0, .int .u32 0, .int .u32 0, .int .u32 0, .string ⟨#[]⟩] 33)) :=
  ⟨hash_zero wx, h.alloc h.size _, h.size⟩
theorem digest_size (l : List UInt8) : (⟨(digest l).toArray⟩ : ByteArray).size = 32 := by
  show (digest l).toArray.size = 32
  unfold digest
  rw [List.size_toArray, flat_length, regs_length]
end Go.Proofs.YtgmlkgageblfgaaDoor
