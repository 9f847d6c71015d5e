/-
  No cell of these rows narrows 'for every input' (looked for: loops, veiled, ifaces, maps, wideKeys, modest, calm, conditions, laid).
  DERIVED. THE GIVEN ROWS OF THIS SEAT. 4 by the template 'for every input the law returns true; each argument reads behind the call as it read before'; 0 by the template 'total and deterministic' (their statements: YtljhdibnnaepdaaTotals.lean).
  GIVEN WITH THE SEED: the statements are not yours to turn. If you find one false, say at which input.
  Laid BY PROGRAM, IN A SANDBOX (cutbox-rows.mjs): the forced cells as the released guide's own fill.sh prints them over the translation 957df7af94075405… (all of the seat's roots in one cut). By AI agents, Wed Nov 11 2026. No macro, syntax, notation, axiom, sorry.
-/
import Derived.Test.YtljhdibnnaepdaaChecked
import GoSem.Claim
import GoSem.ClaimJoined
import GoSem.ClaimMapViews
import Derived.JoinedTies
import Derived.KernelRfl
namespace Go.Proofs.Ytljhdibnnaepdaa
/- THE CELL 'sum', in the pinned program and in every row, IS THE sha256 OF THE DUMP (.gsa) THAT YtljhdibnnaepdaaProg.lean LOADS. Nothing in Lean hashes anything: it is a label: what it is worth is what the hold of that sum in a sandbox is worth. -/
noncomputable def Try.pinned : Pinned := { name := "ytljhdibnnaepdaa", sum := "957df7af94075405e624fa6de479ef0325bd972cd04df16b43960778273a5cb2", checked := Try.checked }
namespace Rows
def none {H : Type} : Left H := { results := [], args := [] }

/-- 'plainsonglaw12.PagesNumbers': WHATEVER THE INPUT: true; the input reads as it did. -/
def pagesNumbersSpec : ChangeSpec := { name := "pagesNumbers", fn := fun _ => fun
  | [] => { results := [.lit (.bool true)], args := [] }
  | _ => none }
def pagesNumbersRow : OpenClaim := { program := "ytljhdibnnaepdaa", sum := "957df7af94075405e624fa6de479ef0325bd972cd04df16b43960778273a5cb2", func := "plainsong/plainsonglaw12.PagesNumbers", spec := "pagesNumbers", apart := false }
def PagesNumbersSaid : Prop := pagesNumbersRow.holds Try.pinned (OpenSpec.ofChange pagesNumbersSpec)

/-- ITS FALSE NEIGHBOUR: 'it returns false'. Refute it at one input. -/
def pagesNumbersWrong : ChangeSpec := { name := "pagesNumbers", fn := fun _ => fun
  | [] => { results := [.lit (.bool false)], args := [] }
  | _ => none }
def PagesNumbersWrongFalsely : Prop := pagesNumbersRow.holds Try.pinned (OpenSpec.ofChange pagesNumbersWrong)

/-- 'plainsonglaw12.PagesPlays': WHATEVER THE INPUT: true; the input reads as it did. -/
def pagesPlaysSpec : ChangeSpec := { name := "pagesPlays", fn := fun _ => fun
  | [d1, d2, d3] => { results := [.lit (.bool true)], args := [d1, d2, d3] }
  | _ => none }
def pagesPlaysRow : OpenClaim := { program := "ytljhdibnnaepdaa", sum := "957df7af94075405e624fa6de479ef0325bd972cd04df16b43960778273a5cb2", func := "plainsong/plainsonglaw12.PagesPlays", spec := "pagesPlays", apart := false }
def PagesPlaysSaid : Prop := pagesPlaysRow.holds Try.pinned (OpenSpec.ofChange pagesPlaysSpec)

/-- ITS FALSE NEIGHBOUR: 'it returns false'. Refute it at one input. -/
def pagesPlaysWrong : ChangeSpec := { name := "pagesPlays", fn := fun _ => fun
  | [d1, d2, d3] => { results := [.lit (.bool false)], args := [d1, d2, d3] }
  | _ => none }
def PagesPlaysWrongFalsely : Prop := pagesPlaysRow.holds Try.pinned (OpenSpec.ofChange pagesPlaysWrong)

/-- 'plainsonglaw12.PagesCopies': WHATEVER THE INPUT: true; the input reads as it did. -/
def pagesCopiesSpec : ChangeSpec := { name := "pagesCopies", fn := fun _ => fun
  | [d1, d2, d3, d4] => { results := [.lit (.bool true)], args := [d1, d2, d3, d4] }
  | _ => none }
def pagesCopiesRow : OpenClaim := { program := "ytljhdibnnaepdaa", sum := "957df7af94075405e624fa6de479ef0325bd972cd04df16b43960778273a5cb2", func := "plainsong/plainsonglaw12.PagesCopies", spec := "pagesCopies", apart := false }
def PagesCopiesSaid : Prop := pagesCopiesRow.holds Try.pinned (OpenSpec.ofChange pagesCopiesSpec)

/-- ITS FALSE NEIGHBOUR: 'it returns false'. Refute it at one input. -/
def pagesCopiesWrong : ChangeSpec := { name := "pagesCopies", fn := fun _ => fun
  | [d1, d2, d3, d4] => { results := [.lit (.bool false)], args := [d1, d2, d3, d4] }
  | _ => none }
def PagesCopiesWrongFalsely : Prop := pagesCopiesRow.holds Try.pinned (OpenSpec.ofChange pagesCopiesWrong)

/-- 'plainsonglaw12.PagesGrows': WHATEVER THE INPUT: true; the input reads as it did. -/
def pagesGrowsSpec : ChangeSpec := { name := "pagesGrows", fn := fun _ => fun
  | [d1, d2, d3] => { results := [.lit (.bool true)], args := [d1, d2, d3] }
  | _ => none }
def pagesGrowsRow : OpenClaim := { program := "ytljhdibnnaepdaa", sum := "957df7af94075405e624fa6de479ef0325bd972cd04df16b43960778273a5cb2", func := "plainsong/plainsonglaw12.PagesGrows", spec := "pagesGrows", apart := false }
def PagesGrowsSaid : Prop := pagesGrowsRow.holds Try.pinned (OpenSpec.ofChange pagesGrowsSpec)

/-- ITS FALSE NEIGHBOUR: 'it returns false'. Refute it at one input. -/
def pagesGrowsWrong : ChangeSpec := { name := "pagesGrows", fn := fun _ => fun
  | [d1, d2, d3] => { results := [.lit (.bool false)], args := [d1, d2, d3] }
  | _ => none }
def PagesGrowsWrongFalsely : Prop := pagesGrowsRow.holds Try.pinned (OpenSpec.ofChange pagesGrowsWrong)

/- THE SECOND FORM. 'bulk': how many values and letters a reading holds, each counted each time it is reached (what is shared counts as often as it is met; a slice's spare places count too). A statement '..UptoSaid' is the law's where the arguments, and the package variables that the reading takes, are together of bulk at most 1048576: NARROWER than '..Said'. Prove '..Said' where nothing that the law and all that it calls make is longer than what came in: it says more and counts as full. Else prove '..UptoSaid'. A law counts once. -/
mutual
def uptoBulk {H : Type} : DataW H → Nat
  | .lit (.string bytes) => bytes.length + 1
  | .lit _ => 1
  | .nil => 1
  | .ptr d => uptoBulk d + 1
  | .slice elems spare => uptoBulkAll elems + uptoBulkAll spare + 1
  | .agg parts => uptoBulkAll parts + 1
  | .iface _ d => uptoBulk d + 1
  | .map entries => uptoBulkEntries entries + 1
  | .held _ => 1
def uptoBulkAll {H : Type} : List (DataW H) → Nat
  | [] => 0
  | d :: r => uptoBulk d + uptoBulkAll r
def uptoBulkEntries {H : Type} : List (Lit × DataW H) → Nat
  | [] => 0
  | x :: r => uptoBulkEntry x + uptoBulkEntries r
def uptoBulkEntry {H : Type} : Lit × DataW H → Nat
  | (.string bytes, d) => bytes.length + uptoBulk d + 1
  | (_, d) => uptoBulk d + 1
 end
def uptoSmall : (H : Type) → List (DataW H) → Bool := fun _ ds => decide (uptoBulkAll ds ≤ 1048576)
def OpenSpec.upto (s : _root_.Go.ChangeSpec) : _root_.Go.OpenSpec := { _root_.Go.OpenSpec.ofChange s with cond := some uptoSmall }

/-- 'plainsonglaw12.PagesNumbers', WHERE WHAT IT READS IS OF BULK AT MOST 1048576: true; the input reads as it did. -/
def pagesNumbersUptoRow : OpenClaim := { program := "ytljhdibnnaepdaa", sum := "957df7af94075405e624fa6de479ef0325bd972cd04df16b43960778273a5cb2", func := "plainsong/plainsonglaw12.PagesNumbers", spec := "pagesNumbers", apart := false, narrowed := true }
def PagesNumbersUptoSaid : Prop := pagesNumbersUptoRow.holds Try.pinned (OpenSpec.upto pagesNumbersSpec)

/-- 'plainsonglaw12.PagesPlays', WHERE WHAT IT READS IS OF BULK AT MOST 1048576: true; the input reads as it did. -/
def pagesPlaysUptoRow : OpenClaim := { program := "ytljhdibnnaepdaa", sum := "957df7af94075405e624fa6de479ef0325bd972cd04df16b43960778273a5cb2", func := "plainsong/plainsonglaw12.PagesPlays", spec := "pagesPlays", apart := false, narrowed := true }
def PagesPlaysUptoSaid : Prop := pagesPlaysUptoRow.holds Try.pinned (OpenSpec.upto pagesPlaysSpec)

/-- 'plainsonglaw12.PagesCopies', WHERE WHAT IT READS IS OF BULK AT MOST 1048576: true; the input reads as it did. -/
def pagesCopiesUptoRow : OpenClaim := { program := "ytljhdibnnaepdaa", sum := "957df7af94075405e624fa6de479ef0325bd972cd04df16b43960778273a5cb2", func := "plainsong/plainsonglaw12.PagesCopies", spec := "pagesCopies", apart := false, narrowed := true }
def PagesCopiesUptoSaid : Prop := pagesCopiesUptoRow.holds Try.pinned (OpenSpec.upto pagesCopiesSpec)

/-- 'plainsonglaw12.PagesGrows', WHERE WHAT IT READS IS OF BULK AT MOST 1048576: true; the input reads as it did. -/
def pagesGrowsUptoRow : OpenClaim := { program := "ytljhdibnnaepdaa", sum := "957df7af94075405e624fa6de479ef0325bd972cd04df16b43960778273a5cb2", func := "plainsong/plainsonglaw12.PagesGrows", spec := "pagesGrows", apart := false, narrowed := true }
def PagesGrowsUptoSaid : Prop := pagesGrowsUptoRow.holds Try.pinned (OpenSpec.upto pagesGrowsSpec)

end Rows
end Go.Proofs.Ytljhdibnnaepdaa
