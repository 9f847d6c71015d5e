/-
  NARROWER THAN 'FOR EVERY INPUT', by the rows' own cells (each row's printed sentence says how): CheckNumbers: laid · MachineGrows: laid · MachineDatas: laid.
  DERIVED. THE GIVEN ROWS OF THIS SEAT. 3 by the template 'for every input the law returns true; each argument reads behind the call as it read before'; 0 by the template 'total and deterministic' (their statements: YtmfpnfdinoofpaaGreatDoorTotals.lean).
  GIVEN WITH THE SEED: the statements are not yours to turn. If you find one false, say at which input.
  Laid BY PROGRAM, IN A SANDBOX (cutbox-rows.mjs): the forced cells as the released guide's own fill.sh prints them over the translation fa0854319e8e71f1… (all of the seat's roots in one cut). By AI agents, Wed Nov 11 2026. No macro, syntax, notation, axiom, sorry.
-/
import Derived.Test.YtmfpnfdinoofpaaGreatDoorChecked
import GoSem.Claim
import GoSem.ClaimJoined
import GoSem.ClaimMapViews
import Derived.JoinedTies
import Derived.KernelRfl
namespace Go.Proofs.YtmfpnfdinoofpaaGreatDoor
/- THE CELL 'sum', in the pinned program and in every row, IS THE sha256 OF THE DUMP (.gsa) THAT YtmfpnfdinoofpaaGreatDoorProg.lean LOADS. Nothing in Lean hashes anything: it is a label: what it is worth is what the hold of that sum in a sandbox is worth. -/
noncomputable def Tryz.pinned : Pinned := { name := "ytmfpnfdinoofpaagreatdoor", sum := "fa0854319e8e71f1e87f4f955a46535a7e00f2a98fb73692e8aca5fa161f70f0", checked := Tryz.checked }
namespace Rows
def none {H : Type} : Left H := { results := [], args := [] }

/- WHAT THE LISTED PACKAGE-LEVEL VARIABLES READ AS WHEN THE CALL BEGINS. Each datum BY PROGRAM (the guide's laid-datum.mjs) off the statement by which the dump's own 'gosem.cut.vars' lays the variable. In a bare row this is a premise. The card (YtmfpnfdinoofpaaGreatDoorCards.lean) ties it to the program's text. -/
def laid_plainsong_text_least {H : Type} : DataW H := .agg [.lit (.int .i64 0), .lit (.int .i64 0), .lit (.int .i64 128), .lit (.int .i64 2048), .lit (.int .i64 65536)]

/-- 'plainsonglaw10.CheckNumbers': WHATEVER THE INPUT: true; the input reads as it did. -/
def checkNumbersSpec : ChangeSpec := { name := "checkNumbers", fn := fun _ => fun
  | [] => { results := [.lit (.bool true)], args := [] }
  | _ => none }
def checkNumbersRow : OpenClaim := { program := "ytmfpnfdinoofpaagreatdoor", sum := "fa0854319e8e71f1e87f4f955a46535a7e00f2a98fb73692e8aca5fa161f70f0", func := "plainsong/plainsonglaw10.CheckNumbers", spec := "checkNumbers", named := ["plainsong/text.least"], apart := false, laid := [("plainsong/text.least", laid_plainsong_text_least)] }
def CheckNumbersSaid : Prop := checkNumbersRow.holds Tryz.pinned (OpenSpec.ofChange checkNumbersSpec)

/-- ITS FALSE NEIGHBOUR: 'it returns false'. Refute it at one input. -/
def checkNumbersWrong : ChangeSpec := { name := "checkNumbers", fn := fun _ => fun
  | [] => { results := [.lit (.bool false)], args := [] }
  | _ => none }
def CheckNumbersWrongFalsely : Prop := checkNumbersRow.holds Tryz.pinned (OpenSpec.ofChange checkNumbersWrong)

/-- 'plainsonglaw14.MachineGrows': WHATEVER THE INPUT: true; the input reads as it did. -/
def machineGrowsSpec : ChangeSpec := { name := "machineGrows", fn := fun _ => fun
  | [d1, d2] => { results := [.lit (.bool true)], args := [d1, d2] }
  | _ => none }
def machineGrowsRow : OpenClaim := { program := "ytmfpnfdinoofpaagreatdoor", sum := "fa0854319e8e71f1e87f4f955a46535a7e00f2a98fb73692e8aca5fa161f70f0", func := "plainsong/plainsonglaw14.MachineGrows", spec := "machineGrows", inPlace := ["math.Float64frombits", "math.archCeil", "math.archFloor", "math.Float64bits", "math.archTrunc", "math.RoundToEven", "math.sqrt"], unfollowed := true, recurses := true, named := ["plainsong/text.least"], apart := false, laid := [("plainsong/text.least", laid_plainsong_text_least)] }
def MachineGrowsSaid : Prop := machineGrowsRow.holds Tryz.pinned (OpenSpec.ofChange machineGrowsSpec)

/-- ITS FALSE NEIGHBOUR: 'it returns false'. Refute it at one input. -/
def machineGrowsWrong : ChangeSpec := { name := "machineGrows", fn := fun _ => fun
  | [d1, d2] => { results := [.lit (.bool false)], args := [d1, d2] }
  | _ => none }
def MachineGrowsWrongFalsely : Prop := machineGrowsRow.holds Tryz.pinned (OpenSpec.ofChange machineGrowsWrong)

/-- 'plainsonglaw14.MachineDatas': WHATEVER THE INPUT: true; the input reads as it did. -/
def machineDatasSpec : ChangeSpec := { name := "machineDatas", fn := fun _ => fun
  | [d1, d2] => { results := [.lit (.bool true)], args := [d1, d2] }
  | _ => none }
def machineDatasRow : OpenClaim := { program := "ytmfpnfdinoofpaagreatdoor", sum := "fa0854319e8e71f1e87f4f955a46535a7e00f2a98fb73692e8aca5fa161f70f0", func := "plainsong/plainsonglaw14.MachineDatas", spec := "machineDatas", inPlace := ["math.Float64frombits", "math.archCeil", "math.archFloor", "math.Float64bits", "math.archTrunc", "math.RoundToEven", "math.sqrt"], unfollowed := true, recurses := true, named := ["plainsong/text.least"], apart := false, laid := [("plainsong/text.least", laid_plainsong_text_least)] }
def MachineDatasSaid : Prop := machineDatasRow.holds Tryz.pinned (OpenSpec.ofChange machineDatasSpec)

/-- ITS FALSE NEIGHBOUR: 'it returns false'. Refute it at one input. -/
def machineDatasWrong : ChangeSpec := { name := "machineDatas", fn := fun _ => fun
  | [d1, d2] => { results := [.lit (.bool false)], args := [d1, d2] }
  | _ => none }
def MachineDatasWrongFalsely : Prop := machineDatasRow.holds Tryz.pinned (OpenSpec.ofChange machineDatasWrong)

/- THE SECOND FORM. 'bulk': how many values and letters a reading holds, each counted each time it is reached (what is shared counts as often as it is met; a slice's spare places count too). A statement '..UptoSaid' is the law's where the arguments, and the package variables that the reading takes, are together of bulk at most 1048576: NARROWER than '..Said'. Prove '..Said' where nothing that the law and all that it calls make is longer than what came in: it says more and counts as full. Else prove '..UptoSaid'. A law counts once. -/
mutual
def uptoBulk {H : Type} : DataW H → Nat
  | .lit (.string bytes) => bytes.length + 1
  | .lit _ => 1
  | .nil => 1
  | .ptr d => uptoBulk d + 1
  | .slice elems spare => uptoBulkAll elems + uptoBulkAll spare + 1
  | .agg parts => uptoBulkAll parts + 1
  | .iface _ d => uptoBulk d + 1
  | .map entries => uptoBulkEntries entries + 1
  | .held _ => 1
def uptoBulkAll {H : Type} : List (DataW H) → Nat
  | [] => 0
  | d :: r => uptoBulk d + uptoBulkAll r
def uptoBulkEntries {H : Type} : List (Lit × DataW H) → Nat
  | [] => 0
  | x :: r => uptoBulkEntry x + uptoBulkEntries r
def uptoBulkEntry {H : Type} : Lit × DataW H → Nat
  | (.string bytes, d) => bytes.length + uptoBulk d + 1
  | (_, d) => uptoBulk d + 1
 end
def uptoSmall : (H : Type) → List (DataW H) → Bool := fun _ ds => decide (uptoBulkAll ds ≤ 1048576)
def OpenSpec.upto (s : _root_.Go.ChangeSpec) : _root_.Go.OpenSpec := { _root_.Go.OpenSpec.ofChange s with cond := some uptoSmall }

/-- 'plainsonglaw10.CheckNumbers', WHERE WHAT IT READS IS OF BULK AT MOST 1048576: true; the input reads as it did. -/
def checkNumbersUptoRow : OpenClaim := { program := "ytmfpnfdinoofpaagreatdoor", sum := "fa0854319e8e71f1e87f4f955a46535a7e00f2a98fb73692e8aca5fa161f70f0", func := "plainsong/plainsonglaw10.CheckNumbers", spec := "checkNumbers", named := ["plainsong/text.least"], apart := false, laid := [("plainsong/text.least", laid_plainsong_text_least)], narrowed := true }
def CheckNumbersUptoSaid : Prop := checkNumbersUptoRow.holds Tryz.pinned (OpenSpec.upto checkNumbersSpec)

/-- 'plainsonglaw14.MachineGrows', WHERE WHAT IT READS IS OF BULK AT MOST 1048576: true; the input reads as it did. -/
def machineGrowsUptoRow : OpenClaim := { program := "ytmfpnfdinoofpaagreatdoor", sum := "fa0854319e8e71f1e87f4f955a46535a7e00f2a98fb73692e8aca5fa161f70f0", func := "plainsong/plainsonglaw14.MachineGrows", spec := "machineGrows", inPlace := ["math.Float64frombits", "math.archCeil", "math.archFloor", "math.Float64bits", "math.archTrunc", "math.RoundToEven", "math.sqrt"], unfollowed := true, recurses := true, named := ["plainsong/text.least"], apart := false, laid := [("plainsong/text.least", laid_plainsong_text_least)], narrowed := true }
def MachineGrowsUptoSaid : Prop := machineGrowsUptoRow.holds Tryz.pinned (OpenSpec.upto machineGrowsSpec)

/-- 'plainsonglaw14.MachineDatas', WHERE WHAT IT READS IS OF BULK AT MOST 1048576: true; the input reads as it did. -/
def machineDatasUptoRow : OpenClaim := { program := "ytmfpnfdinoofpaagreatdoor", sum := "fa0854319e8e71f1e87f4f955a46535a7e00f2a98fb73692e8aca5fa161f70f0", func := "plainsong/plainsonglaw14.MachineDatas", spec := "machineDatas", inPlace := ["math.Float64frombits", "math.archCeil", "math.archFloor", "math.Float64bits", "math.archTrunc", "math.RoundToEven", "math.sqrt"], unfollowed := true, recurses := true, named := ["plainsong/text.least"], apart := false, laid := [("plainsong/text.least", laid_plainsong_text_least)], narrowed := true }
def MachineDatasUptoSaid : Prop := machineDatasUptoRow.holds Tryz.pinned (OpenSpec.upto machineDatasSpec)

end Rows
end Go.Proofs.YtmfpnfdinoofpaaGreatDoor
