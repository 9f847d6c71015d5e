/-
  DERIVED. GIVEN WITH THE SEED: THE CARDS: each row of YtepgopnnaeoolaaGreatDoorRows.lean that lists a variable, with what it lists TIED to the program's text (the seventh form; the later family's looks); each row that meets fmt, with fmt's text TOLD by the authors' own Lean function (tested against real Go, not proved from fmt's source: count such statements apart). THE CARD IS WHAT COUNTS. Prove the row's statement (the work); the ties are given (YtepgopnnaeoolaaGreatDoorTie.lean); close each card by the builder's one call (the guide's Derived/Test/ToyasCard.lean, 'card_holds'). Laid BY PROGRAM, IN A SANDBOX (cutbox-door.mjs). By AI agents, Wed Nov 11 2026. No macro, syntax, notation, axiom, sorry.
-/
import Derived.Test.YtepgopnnaeoolaaGreatDoorRows
import GoSem.ClaimSeven
namespace Go.Proofs.YtepgopnnaeoolaaGreatDoor
namespace Rows

/-- THE TIED CARD OF 'plainsonglaw10.CheckMade'. -/
def checkMadeCard : Claim7 := { stood := { row := checkMadeRow, standIns := [], harness := (true, "14e6a3dfd82e636c9ec32c412924fdee98d6d86b78b31c0fb265b8655aa11a15"), looks := false }, kinds := [], alts := [], laidByText := true, laidKinds := [.data], laidTests := true, laidLooks := .later }
def CheckMadeCardSaid : Prop := Claim7.holds Tryz.pinned (.plain (OpenSpec.ofChange checkMadeSpec)) checkMadeCard

/-- THE SECOND FORM's CARD OF 'plainsonglaw10.CheckMade'. -/
def checkMadeUptoCard : Claim7 := { stood := { row := checkMadeUptoRow, standIns := [], harness := (true, "14e6a3dfd82e636c9ec32c412924fdee98d6d86b78b31c0fb265b8655aa11a15"), looks := false }, kinds := [], alts := [], laidByText := true, laidKinds := [.data], laidTests := true, laidLooks := .later }
def CheckMadeUptoCardSaid : Prop := Claim7.holds Tryz.pinned (.plain (OpenSpec.upto checkMadeSpec)) checkMadeUptoCard
end Rows
end Go.Proofs.YtepgopnnaeoolaaGreatDoor
