/-
  The chapter's examples, plain: three Datas of 1000 bytes are three packets.
-/
import Derived.Test.YtlbaockipeojhaaGreatBundle
namespace Go.Proofs.YtlbaockipeojhaaGreat
open Go.RowKit
set_option linter.unusedVariables false
set_option linter.unusedSimpArgs false
set_option maxRecDepth 100000

def dC : Ck := ⟨0, 3, 0, 0, 0, 0, 0, 0, 0, 0, [], [], [], zerosB 1000⟩
theorem dC_wf : WfC dC := by
  constructor <;> (first | decide | (intro x hx; simp [dC] at hx))
theorem dC_fit : FitC dC := by
  refine ⟨dC_wf, by decide, by decide, by decide, fun x hx => by simp [dC] at hx, ?_⟩
  show (zerosB 1000).size ≤ 1000000
  rw [zerosB_size]
  omega
theorem shown_three : (bundleP 1 2 3 1500 [dC, dC, dC]).length = 3 := by decide +kernel
end Go.Proofs.YtlbaockipeojhaaGreat
