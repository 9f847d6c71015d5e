/- A part of the proof. -/
import Derived.Test.YteohmkceapblkaaDoorRows
import Derived.Test.YteohmkceapblkaaDoorJ2
import Derived.ProofKit
import Derived.LaidMore
import Derived.OpenShut
import Derived.Stop.Joined
import Derived.Stop.LaidErr
import Derived.Lib.LaidTab
namespace Go.Proofs.YteohmkceapblkaaDoor
open Go.ChangeShapes Go.WideShapes Go.ChangeAt Go.RowKit
def laidL : List (String × DataW Unit) := [("plainsong/text.least", Rows.laid_plainsong_text_least)]
theorem ownL : ownKnob Tryd.prog.godebug = none := by kernel_rfl
theorem gLeast : Tryd.prog.globalNamed "plainsong/text.least" = some 0 := by kernel_rfl
theorem tLeast : (Tryd.prog.globals[0]?).map (·.type) = some 146 := by kernel_rfl
theorem cInt : Tryd.prog.cellsOf 3 = 1 := by kernel_rfl
theorem cLeast : Tryd.prog.cellsOf 146 = 5 := by kernel_rfl
theorem door_met (os : Os) (args : Array Value) : laidMetH Tryd.prog laidL ((World.doorLaid Tryd.prog 14 os).forCall (fun _ _ => 0) ⟨#[], args, []⟩).memory :=
  laidMetH_of_parts3 (fuel := 8) (laidMet_of_run' 8 (by kernel_rfl) (by kernel_rfl)) (by kernel_rfl) (by kernel_rfl)
theorem tab_of_laid {W : World} (h : laidMetH Tryd.prog laidL W) : Tab W := by
  rw [MakeChecks.laidMetH_plain _ _ _ (by kernel_rfl)] at h
  have h4 : laidMet Tryd.prog [("plainsong/text.least", Lib.tabData .i64 [0, 0, 128, 2048, 65536])] W := h
  have hT := Lib.tabIs_of_head gLeast tLeast Tryd.underlying146 Tryd.underlying3 cInt cLeast h4
  exact fun i hi => hT.cell gLeast i hi
end Go.Proofs.YteohmkceapblkaaDoor
