/-
  What the listed tables of math/bits give the walks of this seat, and that the program's own start lays them so.
-/
import Derived.Test.YtpknfbgnclgpmaaGreatDoorLayBase
import Derived.ProofKit
import Derived.LaidMore
import Derived.OpenShut
import Derived.Stop.Joined
import Derived.Stop.LaidErr
import Derived.Lib.LaidTab
import Derived.ChangeOld
import Derived.Below
namespace Go.Proofs.YtpknfbgnclgpmaaGreatDoor
open Go.ChangeShapes Go.WideShapes Go.ChangeAt Go.RowKit

/-- The two tables, as each row lists them. -/
def laidTabs : List (String × DataW Unit) := [("math/bits.deBruijn32tab", Rows.laid_math_bits_deBruijn32tab), ("math/bits.deBruijn64tab", Rows.laid_math_bits_deBruijn64tab)]

theorem gTab : Tryz.prog.globalNamed "math/bits.deBruijn64tab" = some 1 := by kernel_rfl
theorem tTab : (Tryz.prog.globals[1]?).map (·.type) = some 225 := by kernel_rfl
theorem cells5 : Tryz.prog.cellsOf 5 = 1 := by kernel_rfl
theorem cells48 : Tryz.prog.cellsOf 225 = 64 := by kernel_rfl
theorem dTab : (Rows.laid_math_bits_deBruijn64tab : DataW Unit) = Lib.tabData .u8 (Lib.deBruijn64tab.map fun n : Nat => (n : Int)) := by rfl

/-- The door's own heap meets the condition. -/
theorem door_met (os : Os) (args : Array Value) : laidMetH Tryz.prog laidTabs ((World.doorLaid Tryz.prog 400 os).forCall (fun _ _ => 0) ⟨#[], args, []⟩).memory :=
  laidMetH_of_parts3 (fuel := 8) (laidMet_of_run' 8 (by kernel_rfl) (by kernel_rfl)) (by kernel_rfl) (by kernel_rfl)

theorem of_laid {W : World} (h : laidMetH Tryz.prog laidTabs W) : Tab W ∧ 1 < W.heap.size := by
  rw [MakeChecks.laidMetH_plain _ _ _ (by kernel_rfl)] at h
  have h2 : laidMet Tryz.prog [("math/bits.deBruijn64tab", Rows.laid_math_bits_deBruijn64tab)] W := h.tail
  rw [dTab] at h2
  have hT := Lib.tabIs_of_head gTab tTab Tryz.underlying225 Tryz.underlying5 cells5 cells48 h2
  have hc : Tab W := fun j hj => by
    have := hT.cell gTab j (by simpa [Lib.deBruijn64tab] using hj)
    rw [this]
    simp only [List.getD_eq_getElem?_getD, List.getElem?_map]
    have hlt : j < Lib.deBruijn64tab.length := by simpa [Lib.deBruijn64tab] using hj
    rw [List.getElem?_eq_getElem hlt]
    rfl
  exact ⟨hc, Go.block_lt_of_cell (hc 0 (by omega))⟩

end Go.Proofs.YtpknfbgnclgpmaaGreatDoor
