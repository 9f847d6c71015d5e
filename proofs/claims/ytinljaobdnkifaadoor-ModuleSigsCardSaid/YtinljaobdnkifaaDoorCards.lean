/-
  DERIVED. GIVEN WITH THE SEED: THE CARDS: each row of YtinljaobdnkifaaDoorRows.lean that lists a variable, with what it lists TIED to the program's text (the seventh form; the later family's looks); each row that meets fmt, with fmt's text TOLD by the authors' own Lean function (tested against real Go, not proved from fmt's source: count such statements apart). THE CARD IS WHAT COUNTS. Prove the row's statement (the work); the ties are given (YtinljaobdnkifaaDoorTie.lean); close each card by the builder's one call (the guide's Derived/Test/ToyasCard.lean, 'card_holds'). Laid BY PROGRAM, IN A SANDBOX (cutbox-door.mjs). By AI agents, Wed Nov 11 2026. No macro, syntax, notation, axiom, sorry.
-/
import Derived.Test.YtinljaobdnkifaaDoorRows
import GoSem.ClaimSeven
namespace Go.Proofs.YtinljaobdnkifaaDoor
namespace Rows

/-- THE TIED CARD OF 'plainsonglaw6.ModuleSigs'. -/
def moduleSigsCard : Claim7 := { stood := { row := moduleSigsRow, standIns := [], harness := (true, "b2d0e4d774fdc5add7bb18c3555d285584e40e8ddf4b4a82781685e8cebeaadc"), looks := false }, kinds := [], alts := [], laidByText := true, laidKinds := [.data], laidTests := true, laidLooks := .later }
def ModuleSigsCardSaid : Prop := Claim7.holds Tryd.pinned (.plain (OpenSpec.ofChange moduleSigsSpec)) moduleSigsCard

/-- THE SECOND FORM's CARD OF 'plainsonglaw6.ModuleSigs'. -/
def moduleSigsUptoCard : Claim7 := { stood := { row := moduleSigsUptoRow, standIns := [], harness := (true, "b2d0e4d774fdc5add7bb18c3555d285584e40e8ddf4b4a82781685e8cebeaadc"), looks := false }, kinds := [], alts := [], laidByText := true, laidKinds := [.data], laidTests := true, laidLooks := .later }
def ModuleSigsUptoCardSaid : Prop := Claim7.holds Tryd.pinned (.plain (OpenSpec.upto moduleSigsSpec)) moduleSigsUptoCard
end Rows
end Go.Proofs.YtinljaobdnkifaaDoor
