/-
  DERIVED. GIVEN WITH THE SEED: THE CARDS: each row of YtmfpnfdinoofpaaGreatDoorRows.lean that lists a variable, with what it lists TIED to the program's text (the seventh form; the later family's looks); each row that meets fmt, with fmt's text TOLD by the authors' own Lean function (tested against real Go, not proved from fmt's source: count such statements apart). THE CARD IS WHAT COUNTS. Prove the row's statement (the work); the ties are given (YtmfpnfdinoofpaaGreatDoorTie.lean); close each card by the builder's one call (the guide's Derived/Test/ToyasCard.lean, 'card_holds'). Laid BY PROGRAM, IN A SANDBOX (cutbox-door.mjs). By AI agents, Wed Nov 11 2026. No macro, syntax, notation, axiom, sorry.
-/
import Derived.Test.YtmfpnfdinoofpaaGreatDoorRows
import GoSem.ClaimSeven
namespace Go.Proofs.YtmfpnfdinoofpaaGreatDoor
namespace Rows

/-- THE TIED CARD OF 'plainsonglaw10.CheckNumbers'. -/
def checkNumbersCard : Claim7 := { stood := { row := checkNumbersRow, standIns := [], harness := (true, "39f65c2938e86e1cd92139c5af3d6decd2bee5b88ca511416a4956814ca5e41a"), looks := true }, kinds := [], alts := [], laidByText := true, laidKinds := [.data], laidTests := true, laidLooks := .later }
def CheckNumbersCardSaid : Prop := Claim7.holds Tryz.pinned (.plain (OpenSpec.ofChange checkNumbersSpec)) checkNumbersCard

/-- THE TIED CARD OF 'plainsonglaw14.MachineGrows'. -/
def machineGrowsCard : Claim7 := { stood := { row := machineGrowsRow, standIns := [], harness := (true, "39f65c2938e86e1cd92139c5af3d6decd2bee5b88ca511416a4956814ca5e41a"), looks := true }, kinds := [], alts := [], laidByText := true, laidKinds := [.data], laidTests := true, laidLooks := .later }
def MachineGrowsCardSaid : Prop := Claim7.holds Tryz.pinned (.plain (OpenSpec.ofChange machineGrowsSpec)) machineGrowsCard

/-- THE TIED CARD OF 'plainsonglaw14.MachineDatas'. -/
def machineDatasCard : Claim7 := { stood := { row := machineDatasRow, standIns := [], harness := (true, "39f65c2938e86e1cd92139c5af3d6decd2bee5b88ca511416a4956814ca5e41a"), looks := true }, kinds := [], alts := [], laidByText := true, laidKinds := [.data], laidTests := true, laidLooks := .later }
def MachineDatasCardSaid : Prop := Claim7.holds Tryz.pinned (.plain (OpenSpec.ofChange machineDatasSpec)) machineDatasCard

/-- THE SECOND FORM's CARD OF 'plainsonglaw10.CheckNumbers'. -/
def checkNumbersUptoCard : Claim7 := { stood := { row := checkNumbersUptoRow, standIns := [], harness := (true, "39f65c2938e86e1cd92139c5af3d6decd2bee5b88ca511416a4956814ca5e41a"), looks := true }, kinds := [], alts := [], laidByText := true, laidKinds := [.data], laidTests := true, laidLooks := .later }
def CheckNumbersUptoCardSaid : Prop := Claim7.holds Tryz.pinned (.plain (OpenSpec.upto checkNumbersSpec)) checkNumbersUptoCard

/-- THE SECOND FORM's CARD OF 'plainsonglaw14.MachineGrows'. -/
def machineGrowsUptoCard : Claim7 := { stood := { row := machineGrowsUptoRow, standIns := [], harness := (true, "39f65c2938e86e1cd92139c5af3d6decd2bee5b88ca511416a4956814ca5e41a"), looks := true }, kinds := [], alts := [], laidByText := true, laidKinds := [.data], laidTests := true, laidLooks := .later }
def MachineGrowsUptoCardSaid : Prop := Claim7.holds Tryz.pinned (.plain (OpenSpec.upto machineGrowsSpec)) machineGrowsUptoCard

/-- THE SECOND FORM's CARD OF 'plainsonglaw14.MachineDatas'. -/
def machineDatasUptoCard : Claim7 := { stood := { row := machineDatasUptoRow, standIns := [], harness := (true, "39f65c2938e86e1cd92139c5af3d6decd2bee5b88ca511416a4956814ca5e41a"), looks := true }, kinds := [], alts := [], laidByText := true, laidKinds := [.data], laidTests := true, laidLooks := .later }
def MachineDatasUptoCardSaid : Prop := Claim7.holds Tryz.pinned (.plain (OpenSpec.upto machineDatasSpec)) machineDatasUptoCard
end Rows
end Go.Proofs.YtmfpnfdinoofpaaGreatDoor
