/- A part of the proof. -/
import Derived.Test.YtepgopnnaeoolaaGreatDoorRows
import Derived.Test.YtepgopnnaeoolaaGreatDoorJ1
import Derived.ProofKit
import Derived.LaidMore
import Derived.OpenShut
import Derived.Stop.Joined
import Derived.Stop.LaidErr
import Derived.Lib.LaidTab
namespace Go.Proofs.YtepgopnnaeoolaaGreatDoor
open Go.ChangeShapes Go.WideShapes Go.ChangeAt Go.RowKit
def laidL:List (String×DataW Unit):=[("plainsong/text.least",Rows.laid_plainsong_text_least)]
theorem ownL:ownKnob Tryz.prog.godebug=none:=by kernel_rfl
theorem gLeast:Tryz.prog.globalNamed "plainsong/text.least"=some 0:=by kernel_rfl
theorem tLeast:(Tryz.prog.globals[0]?).map (·.type)=some 166:=by kernel_rfl
theorem cInt:Tryz.prog.cellsOf 3=1:=by kernel_rfl
theorem cLeast:Tryz.prog.cellsOf 166=5:=by kernel_rfl
theorem door_met (os:Os) (args:Array Value):laidMetH Tryz.prog laidL ((World.doorLaid Tryz.prog 14 os).forCall (fun _ _=>0) ⟨#[],args,[]⟩).memory :=
 laidMetH_of_parts3 (fuel:=8) (laidMet_of_run' 8 (by kernel_rfl) (by kernel_rfl)) (by kernel_rfl) (by kernel_rfl)
theorem tab_of_laid {W:World} (h:laidMetH Tryz.prog laidL W):Tab W:=by
 rw[MakeChecks.laidMetH_plain _ _ _ (by kernel_rfl)]at h;have h4:laidMet Tryz.prog [("plainsong/text.least",Lib.tabData .i64 [0,0,128,2048,65536])] W:=h;have hT:=Lib.tabIs_of_head gLeast tLeast Tryz.underlying166 Tryz.underlying3 cInt cLeast h4;exact fun i hi=>hT.cell gLeast i hi
end Go.Proofs.YtepgopnnaeoolaaGreatDoor
