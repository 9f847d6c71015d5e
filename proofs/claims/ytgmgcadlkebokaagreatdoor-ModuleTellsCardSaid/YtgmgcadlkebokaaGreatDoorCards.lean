/-
  DERIVED. GIVEN WITH THE SEED: THE CARDS: each row of YtgmgcadlkebokaaGreatDoorRows.lean that lists a variable, with what it lists TIED to the program's text (the seventh form; the later family's looks); each row that meets fmt, with fmt's text TOLD by the authors' own Lean function (tested against real Go, not proved from fmt's source: count such statements apart). THE CARD IS WHAT COUNTS. Prove the row's statement (the work); the ties are given (YtgmgcadlkebokaaGreatDoorTie.lean); close each card by the builder's one call (the guide's Derived/Test/ToyasCard.lean, 'card_holds'). Laid BY PROGRAM, IN A SANDBOX (cutbox-door.mjs). By AI agents, Wed Nov 11 2026. No macro, syntax, notation, axiom, sorry.
-/
import Derived.Test.YtgmgcadlkebokaaGreatDoorRows
import GoSem.ClaimSeven
namespace Go.Proofs.YtgmgcadlkebokaaGreatDoor
namespace Rows

/-- THE TIED CARD OF 'plainsonglaw6.ModuleTells'. -/
def moduleTellsCard : Claim7 := { stood := { row := moduleTellsRow, standIns := [], harness := (true, "78100baadc180be16e54d6828030d51b45902b13ffbc552da5c3a2010f8bc95e"), looks := false }, kinds := [], alts := [], laidByText := true, laidKinds := [.data], laidTests := true, laidLooks := .later }
def ModuleTellsCardSaid : Prop := Claim7.holds Tryz.pinned (.plain (OpenSpec.ofChange moduleTellsSpec)) moduleTellsCard

/-- THE SECOND FORM's CARD OF 'plainsonglaw6.ModuleTells'. -/
def moduleTellsUptoCard : Claim7 := { stood := { row := moduleTellsUptoRow, standIns := [], harness := (true, "78100baadc180be16e54d6828030d51b45902b13ffbc552da5c3a2010f8bc95e"), looks := false }, kinds := [], alts := [], laidByText := true, laidKinds := [.data], laidTests := true, laidLooks := .later }
def ModuleTellsUptoCardSaid : Prop := Claim7.holds Tryz.pinned (.plain (OpenSpec.upto moduleTellsSpec)) moduleTellsUptoCard
end Rows
end Go.Proofs.YtgmgcadlkebokaaGreatDoor
