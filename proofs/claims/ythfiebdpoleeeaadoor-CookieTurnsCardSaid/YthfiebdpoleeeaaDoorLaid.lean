/-
  The table of constants, as the program's start lays it: what the condition gives a walk, and that the start meets it.
-/
import Derived.Test.YthfiebdpoleeeaaDoorLift
import Derived.Test.YthfiebdpoleeeaaDoorShaD
import Derived.LaidMore
import Derived.Lib.LaidTab
import Derived.Stop.Joined
namespace Go.Proofs.YthfiebdpoleeeaaDoor
open Go.ChangeShapes Go.WideShapes Go.ChangeAt Go.RowKit

abbrev laidK : List (String × DataW Unit) := [("towline/sha.cubic", Rows.laid_towline_sha_cubic)]
theorem laidK_tab : laidK = ("towline/sha.cubic", Lib.tabData .u32 (consts.map fun u => (u.toNat : Int))) :: [] := by kernel_rfl
theorem gK : Tryd.prog.globalNamed "towline/sha.cubic" = some 0 := by kernel_rfl
theorem tK : (Tryd.prog.globals[0]?).map (·.type) = some 131 := by kernel_rfl
theorem kub_of_laid {W : World} (h : laidMetH Tryd.prog laidK W) : Kub W := by
  rw [MakeChecks.laidMetH_plain _ _ _ (by kernel_rfl), laidK_tab] at h
  have ht := Lib.tabIs_of_head gK tK Tryd.underlying131 Tryd.underlying22 (by kernel_rfl) (by kernel_rfl) h
  have hc : ∀ j, j < 64 → W.cell? ⟨0, j, none⟩ = some (.int .u32 (consts[j]!.toNat : Int)) := fun j hj => by
    have hl : (consts.map fun u => (u.toNat : Int)).length = 64 := rfl
    have hl2 : consts.length = 64 := rfl
    rw [ht.cell gK j (by rw [hl]; exact hj), List.getD_eq_getElem?_getD, List.getElem?_map, List.getElem?_eq_getElem (by rw [hl2]; exact hj), getElem!_pos consts j (by rw [hl2]; exact hj)]
    rfl
  exact ⟨block_lt_of_cell (hc 0 (by omega)), hc⟩
/-- The heap that the start leaves meets the condition. -/
theorem door_met (os : Os) (args : Array Value) : laidMetH Tryd.prog laidK ((World.doorLaid Tryd.prog 14 os).forCall (fun _ _ => 0) ⟨#[], args, []⟩).memory :=
  laidMetH_of_parts3 (fuel := 8) (laidMet_of_run' 8 (by kernel_rfl) (by kernel_rfl)) (by kernel_rfl) (by kernel_rfl)
end Go.Proofs.YthfiebdpoleeeaaDoor
