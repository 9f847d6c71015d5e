/-
  No cell of these rows narrows 'for every input' (looked for: loops, veiled, ifaces, maps, wideKeys, modest, calm, conditions, laid).
  DERIVED. THE GIVEN ROWS OF THIS SEAT. 5 by the template 'for every input the law returns true; each argument reads behind the call as it read before'; 0 by the template 'total and deterministic' (their statements: YtjnmcaokcjkagaaTotals.lean).
  GIVEN WITH THE SEED: the statements are not yours to turn. If you find one false, say at which input.
  Laid BY PROGRAM, IN A SANDBOX (cutbox-rows.mjs): the forced cells as the released guide's own fill.sh prints them over the translation 3b084e8c0d69f63b… (all of the seat's roots in one cut). By AI agents, Wed Nov 11 2026. No macro, syntax, notation, axiom, sorry.
-/
import Derived.Test.YtjnmcaokcjkagaaChecked
import GoSem.Claim
import GoSem.ClaimJoined
import GoSem.ClaimMapViews
import Derived.JoinedTies
import Derived.KernelRfl
namespace Go.Proofs.Ytjnmcaokcjkagaa
/- THE CELL 'sum', in the pinned program and in every row, IS THE sha256 OF THE DUMP (.gsa) THAT YtjnmcaokcjkagaaProg.lean LOADS. Nothing in Lean hashes anything: it is a label: what it is worth is what the hold of that sum in a sandbox is worth. -/
noncomputable def Try.pinned : Pinned := { name := "ytjnmcaokcjkagaa", sum := "3b084e8c0d69f63bb02c900cb41c9cc9b40725d1443a67ac56470445e4de97b3", checked := Try.checked }
namespace Rows
def none {H : Type} : Left H := { results := [], args := [] }

/-- 'plainsonglaw1.IntsNumbers': WHATEVER THE INPUT: true; the input reads as it did. -/
def intsNumbersSpec : ChangeSpec := { name := "intsNumbers", fn := fun _ => fun
  | [] => { results := [.lit (.bool true)], args := [] }
  | _ => none }
def intsNumbersRow : OpenClaim := { program := "ytjnmcaokcjkagaa", sum := "3b084e8c0d69f63bb02c900cb41c9cc9b40725d1443a67ac56470445e4de97b3", func := "plainsong/plainsonglaw1.IntsNumbers", spec := "intsNumbers", apart := false }
def IntsNumbersSaid : Prop := intsNumbersRow.holds Try.pinned (OpenSpec.ofChange intsNumbersSpec)

/-- ITS FALSE NEIGHBOUR: 'it returns false'. Refute it at one input. -/
def intsNumbersWrong : ChangeSpec := { name := "intsNumbers", fn := fun _ => fun
  | [] => { results := [.lit (.bool false)], args := [] }
  | _ => none }
def IntsNumbersWrongFalsely : Prop := intsNumbersRow.holds Try.pinned (OpenSpec.ofChange intsNumbersWrong)

/-- 'plainsonglaw1.IntsTells': WHATEVER THE INPUT: true; the input reads as it did. -/
def intsTellsSpec : ChangeSpec := { name := "intsTells", fn := fun _ => fun
  | [d1, d2, d3, d4, d5, d6] => { results := [.lit (.bool true)], args := [d1, d2, d3, d4, d5, d6] }
  | _ => none }
def intsTellsRow : OpenClaim := { program := "ytjnmcaokcjkagaa", sum := "3b084e8c0d69f63bb02c900cb41c9cc9b40725d1443a67ac56470445e4de97b3", func := "plainsong/plainsonglaw1.IntsTells", spec := "intsTells", apart := false }
def IntsTellsSaid : Prop := intsTellsRow.holds Try.pinned (OpenSpec.ofChange intsTellsSpec)

/-- ITS FALSE NEIGHBOUR: 'it returns false'. Refute it at one input. -/
def intsTellsWrong : ChangeSpec := { name := "intsTells", fn := fun _ => fun
  | [d1, d2, d3, d4, d5, d6] => { results := [.lit (.bool false)], args := [d1, d2, d3, d4, d5, d6] }
  | _ => none }
def IntsTellsWrongFalsely : Prop := intsTellsRow.holds Try.pinned (OpenSpec.ofChange intsTellsWrong)

/-- 'plainsonglaw1.IntsPairs': WHATEVER THE INPUT: true; the input reads as it did. -/
def intsPairsSpec : ChangeSpec := { name := "intsPairs", fn := fun _ => fun
  | [d1, d2] => { results := [.lit (.bool true)], args := [d1, d2] }
  | _ => none }
def intsPairsRow : OpenClaim := { program := "ytjnmcaokcjkagaa", sum := "3b084e8c0d69f63bb02c900cb41c9cc9b40725d1443a67ac56470445e4de97b3", func := "plainsong/plainsonglaw1.IntsPairs", spec := "intsPairs", apart := false }
def IntsPairsSaid : Prop := intsPairsRow.holds Try.pinned (OpenSpec.ofChange intsPairsSpec)

/-- ITS FALSE NEIGHBOUR: 'it returns false'. Refute it at one input. -/
def intsPairsWrong : ChangeSpec := { name := "intsPairs", fn := fun _ => fun
  | [d1, d2] => { results := [.lit (.bool false)], args := [d1, d2] }
  | _ => none }
def IntsPairsWrongFalsely : Prop := intsPairsRow.holds Try.pinned (OpenSpec.ofChange intsPairsWrong)

/-- 'plainsonglaw1.IntsSigns': WHATEVER THE INPUT: true; the input reads as it did. -/
def intsSignsSpec : ChangeSpec := { name := "intsSigns", fn := fun _ => fun
  | [d1, d2] => { results := [.lit (.bool true)], args := [d1, d2] }
  | _ => none }
def intsSignsRow : OpenClaim := { program := "ytjnmcaokcjkagaa", sum := "3b084e8c0d69f63bb02c900cb41c9cc9b40725d1443a67ac56470445e4de97b3", func := "plainsong/plainsonglaw1.IntsSigns", spec := "intsSigns", apart := false }
def IntsSignsSaid : Prop := intsSignsRow.holds Try.pinned (OpenSpec.ofChange intsSignsSpec)

/-- ITS FALSE NEIGHBOUR: 'it returns false'. Refute it at one input. -/
def intsSignsWrong : ChangeSpec := { name := "intsSigns", fn := fun _ => fun
  | [d1, d2] => { results := [.lit (.bool false)], args := [d1, d2] }
  | _ => none }
def IntsSignsWrongFalsely : Prop := intsSignsRow.holds Try.pinned (OpenSpec.ofChange intsSignsWrong)

/-- 'plainsonglaw1.IntsCounts': WHATEVER THE INPUT: true; the input reads as it did. -/
def intsCountsSpec : ChangeSpec := { name := "intsCounts", fn := fun _ => fun
  | [d1, d2] => { results := [.lit (.bool true)], args := [d1, d2] }
  | _ => none }
def intsCountsRow : OpenClaim := { program := "ytjnmcaokcjkagaa", sum := "3b084e8c0d69f63bb02c900cb41c9cc9b40725d1443a67ac56470445e4de97b3", func := "plainsong/plainsonglaw1.IntsCounts", spec := "intsCounts", apart := false }
def IntsCountsSaid : Prop := intsCountsRow.holds Try.pinned (OpenSpec.ofChange intsCountsSpec)

/-- ITS FALSE NEIGHBOUR: 'it returns false'. Refute it at one input. -/
def intsCountsWrong : ChangeSpec := { name := "intsCounts", fn := fun _ => fun
  | [d1, d2] => { results := [.lit (.bool false)], args := [d1, d2] }
  | _ => none }
def IntsCountsWrongFalsely : Prop := intsCountsRow.holds Try.pinned (OpenSpec.ofChange intsCountsWrong)

/- THE SECOND FORM. 'bulk': how many values and letters a reading holds, each counted each time it is reached (what is shared counts as often as it is met; a slice's spare places count too). A statement '..UptoSaid' is the law's where the arguments, and the package variables that the reading takes, are together of bulk at most 1048576: NARROWER than '..Said'. Prove '..Said' where nothing that the law and all that it calls make is longer than what came in: it says more and counts as full. Else prove '..UptoSaid'. A law counts once. -/
mutual
def uptoBulk {H : Type} : DataW H → Nat
  | .lit (.string bytes) => bytes.length + 1
  | .lit _ => 1
  | .nil => 1
  | .ptr d => uptoBulk d + 1
  | .slice elems spare => uptoBulkAll elems + uptoBulkAll spare + 1
  | .agg parts => uptoBulkAll parts + 1
  | .iface _ d => uptoBulk d + 1
  | .map entries => uptoBulkEntries entries + 1
  | .held _ => 1
def uptoBulkAll {H : Type} : List (DataW H) → Nat
  | [] => 0
  | d :: r => uptoBulk d + uptoBulkAll r
def uptoBulkEntries {H : Type} : List (Lit × DataW H) → Nat
  | [] => 0
  | x :: r => uptoBulkEntry x + uptoBulkEntries r
def uptoBulkEntry {H : Type} : Lit × DataW H → Nat
  | (.string bytes, d) => bytes.length + uptoBulk d + 1
  | (_, d) => uptoBulk d + 1
 end
def uptoSmall : (H : Type) → List (DataW H) → Bool := fun _ ds => decide (uptoBulkAll ds ≤ 1048576)
def OpenSpec.upto (s : _root_.Go.ChangeSpec) : _root_.Go.OpenSpec := { _root_.Go.OpenSpec.ofChange s with cond := some uptoSmall }

/-- 'plainsonglaw1.IntsNumbers', WHERE WHAT IT READS IS OF BULK AT MOST 1048576: true; the input reads as it did. -/
def intsNumbersUptoRow : OpenClaim := { program := "ytjnmcaokcjkagaa", sum := "3b084e8c0d69f63bb02c900cb41c9cc9b40725d1443a67ac56470445e4de97b3", func := "plainsong/plainsonglaw1.IntsNumbers", spec := "intsNumbers", apart := false, narrowed := true }
def IntsNumbersUptoSaid : Prop := intsNumbersUptoRow.holds Try.pinned (OpenSpec.upto intsNumbersSpec)

/-- 'plainsonglaw1.IntsTells', WHERE WHAT IT READS IS OF BULK AT MOST 1048576: true; the input reads as it did. -/
def intsTellsUptoRow : OpenClaim := { program := "ytjnmcaokcjkagaa", sum := "3b084e8c0d69f63bb02c900cb41c9cc9b40725d1443a67ac56470445e4de97b3", func := "plainsong/plainsonglaw1.IntsTells", spec := "intsTells", apart := false, narrowed := true }
def IntsTellsUptoSaid : Prop := intsTellsUptoRow.holds Try.pinned (OpenSpec.upto intsTellsSpec)

/-- 'plainsonglaw1.IntsPairs', WHERE WHAT IT READS IS OF BULK AT MOST 1048576: true; the input reads as it did. -/
def intsPairsUptoRow : OpenClaim := { program := "ytjnmcaokcjkagaa", sum := "3b084e8c0d69f63bb02c900cb41c9cc9b40725d1443a67ac56470445e4de97b3", func := "plainsong/plainsonglaw1.IntsPairs", spec := "intsPairs", apart := false, narrowed := true }
def IntsPairsUptoSaid : Prop := intsPairsUptoRow.holds Try.pinned (OpenSpec.upto intsPairsSpec)

/-- 'plainsonglaw1.IntsSigns', WHERE WHAT IT READS IS OF BULK AT MOST 1048576: true; the input reads as it did. -/
def intsSignsUptoRow : OpenClaim := { program := "ytjnmcaokcjkagaa", sum := "3b084e8c0d69f63bb02c900cb41c9cc9b40725d1443a67ac56470445e4de97b3", func := "plainsong/plainsonglaw1.IntsSigns", spec := "intsSigns", apart := false, narrowed := true }
def IntsSignsUptoSaid : Prop := intsSignsUptoRow.holds Try.pinned (OpenSpec.upto intsSignsSpec)

/-- 'plainsonglaw1.IntsCounts', WHERE WHAT IT READS IS OF BULK AT MOST 1048576: true; the input reads as it did. -/
def intsCountsUptoRow : OpenClaim := { program := "ytjnmcaokcjkagaa", sum := "3b084e8c0d69f63bb02c900cb41c9cc9b40725d1443a67ac56470445e4de97b3", func := "plainsong/plainsonglaw1.IntsCounts", spec := "intsCounts", apart := false, narrowed := true }
def IntsCountsUptoSaid : Prop := intsCountsUptoRow.holds Try.pinned (OpenSpec.upto intsCountsSpec)

end Rows
end Go.Proofs.Ytjnmcaokcjkagaa
