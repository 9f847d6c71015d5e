/-
  DERIVED. GIVEN WITH THE SEED: THE CARDS: each row of YteohmkceapblkaaDoorRows.lean that lists a variable, with what it lists TIED to the program's text (the seventh form; the later family's looks); each row that meets fmt, with fmt's text TOLD by the authors' own Lean function (tested against real Go, not proved from fmt's source: count such statements apart). THE CARD IS WHAT COUNTS. Prove the row's statement (the work); the ties are given (YteohmkceapblkaaDoorTie.lean); close each card by the builder's one call (the guide's Derived/Test/ToyasCard.lean, 'card_holds'). Laid BY PROGRAM, IN A SANDBOX (cutbox-door.mjs). By AI agents, Wed Nov 11 2026. No macro, syntax, notation, axiom, sorry.
-/
import Derived.Test.YteohmkceapblkaaDoorRows
import GoSem.ClaimSeven
namespace Go.Proofs.YteohmkceapblkaaDoor
namespace Rows

/-- THE TIED CARD OF 'plainsonglaw10.CheckDead'. -/
def checkDeadCard : Claim7 := { stood := { row := checkDeadRow, standIns := [], harness := (true, "1360e971ea6548e436a4b419b0b33a9bc1fbb73f9ba134b1107eb5806ea61594"), looks := false }, kinds := [], alts := [], laidByText := true, laidKinds := [.data], laidTests := true, laidLooks := .later }
def CheckDeadCardSaid : Prop := Claim7.holds Tryd.pinned (.plain (OpenSpec.ofChange checkDeadSpec)) checkDeadCard

/-- THE SECOND FORM's CARD OF 'plainsonglaw10.CheckDead'. -/
def checkDeadUptoCard : Claim7 := { stood := { row := checkDeadUptoRow, standIns := [], harness := (true, "1360e971ea6548e436a4b419b0b33a9bc1fbb73f9ba134b1107eb5806ea61594"), looks := false }, kinds := [], alts := [], laidByText := true, laidKinds := [.data], laidTests := true, laidLooks := .later }
def CheckDeadUptoCardSaid : Prop := Claim7.holds Tryd.pinned (.plain (OpenSpec.upto checkDeadSpec)) checkDeadUptoCard
end Rows
end Go.Proofs.YteohmkceapblkaaDoor
