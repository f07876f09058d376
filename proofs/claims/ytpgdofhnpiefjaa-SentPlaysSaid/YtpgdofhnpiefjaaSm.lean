/-
  Plain facts on numbers that go round: how far one is from another (32 and 16 bits). No program is named here.
-/
import Derived.WalkKit
namespace Go.Proofs.Ytpgdofhnpiefjaa

/-- The number of -2^31 to 2^31 - 1 that leads from a to b, round 2^32. -/
def dist32 (a b : Int) : Int := (b - a + 2147483648) % 4294967296 - 2147483648
def before32 (a b : Int) : Bool := decide (0 < dist32 a b)
def later32 (a b : Int) : Int := if 0 < dist32 a b then b else a
def dist16 (a b : Int) : Int := (b - a + 32768) % 65536 - 32768
def before16 (a b : Int) : Bool := decide (0 < dist16 a b)
/-- How far x is above f, round 2^32. -/
def up32 (x f : Int) : Int := (x - f) % 4294967296
def up16 (x f : Int) : Int := (x - f) % 65536
def within32 (x f t : Int) : Bool := decide (up32 x f ≤ up32 t f)

theorem up32_lo (x f : Int) : 0 ≤ up32 x f := by unfold up32; omega
theorem up32_hi (x f : Int) : up32 x f ≤ 4294967295 := by unfold up32; omega
theorem dist32_lo (a b : Int) : -2147483648 ≤ dist32 a b := by unfold dist32; omega
theorem dist32_hi (a b : Int) : dist32 a b ≤ 2147483647 := by unfold dist32; omega
theorem dist16_lo (a b : Int) : -32768 ≤ dist16 a b := by unfold dist16; omega
theorem dist16_hi (a b : Int) : dist16 a b ≤ 32767 := by unfold dist16; omega
theorem wrap32_up (a b : Int) : Go.RowKit.wrap32 ((b - a) % 4294967296) = dist32 a b := by unfold Go.RowKit.wrap32 dist32; omega
theorem before32_iff (a b : Int) : before32 a b = true ↔ 0 < dist32 a b := by simp [before32]

theorem before32_lo (a b : Int) (h : up32 b a < 1) : before32 a b = false := by
  unfold before32; unfold up32 at h; exact decide_eq_false (by unfold dist32; omega)
theorem before32_mid (a b : Int) (h : 1 ≤ up32 b a) (h' : up32 b a < 2147483648) : before32 a b = true := by
  unfold before32; unfold up32 at h h'; exact decide_eq_true (by unfold dist32; omega)
theorem before32_hi (a b : Int) (h : 2147483648 ≤ up32 b a) : before32 a b = false := by
  unfold before32; unfold up32 at h; exact decide_eq_false (by unfold dist32; omega)
theorem before16_lo (a b : Int) (h : up16 b a < 1) : before16 a b = false := by
  unfold before16; unfold up16 at h; exact decide_eq_false (by unfold dist16; omega)
theorem before16_mid (a b : Int) (h : 1 ≤ up16 b a) (h' : up16 b a < 32768) : before16 a b = true := by
  unfold before16; unfold up16 at h h'; exact decide_eq_true (by unfold dist16; omega)
theorem before16_hi (a b : Int) (h : 32768 ≤ up16 b a) : before16 a b = false := by
  unfold before16; unfold up16 at h; exact decide_eq_false (by unfold dist16; omega)

end Go.Proofs.Ytpgdofhnpiefjaa
