/-
  Rows of numbers in memory; contracts of Same, slices.Index, slices.Contains, of both Rich.
-/
import Derived.Test.YtdfonjnplmfhfaaOi
import Derived.BigQuiet
import Derived.Deep.QuietTactic
import Derived.WalkSmall
import Derived.Great.BuildSlice
namespace Go.Proofs.Ytdfonjnplmfhfaa
open Go.RowKit

/-- A slice literal whose cells are known beforehand, by closed facts alone. -/
theorem wpList_buildSliceN {P : Program} {ops : Array Oper} {rest : List Oper} {o : Oper} {a : Act} {w : World} {Q : Exit → Act → World → Prop} (hg : o.guard = none) (t e : TypeId) (len : Nat) (parts : Array (Nat × Operand)) (ho : o.op = .buildSlice t len parts)
    (cells : Array Value) (z : Value) (n : Nat) (hu : P.underlying t = some (.slice e)) (hi : (P.info? e).map (fun i => (i.zero, i.size)) = some (some z, n)) (hsmall : ¬ len * n > 2 ^ 24) (hpos : ¬ len * n = 0)
    (hf : Instr.fill (fun i => some (i * n, n)) ((Array.range (len * n)).map (z.cells[· % z.cells.size]!)) (parts.map fun (i, x) => (i, a.eval x)).toList = some cells)
    (h : wpList P ops Q rest (a.put o.dst (.slice (some ⟨w.heap.size, 0, none⟩) len len)) (w.alloc (.cells cells e))) : wpList P ops Q (o :: rest) a w := by
  cases hie : P.info? e with
  | none => rw [hie] at hi; cases hi
  | some ie =>
    rw [hie] at hi
    have hz : (ie.zero, ie.size) = (some z, n) := by simpa using hi
    have hz0 : ie.zero = some z := congrArg Prod.fst hz
    have hz1 : ie.size = n := congrArg Prod.snd hz
    exact wpList_buildSlice hg t e len parts ho cells ie z hu hie hz0 (by rw [hz1]; exact hsmall) (by rw [hz1]; exact hpos) (by rw [hz1]; exact hf) h

/-- v is nil and holds nothing, or a slice that reads as xs, which has an element. -/
def RowOf (w : World) (v : Value) (xs : List Int) : Prop :=
  (v = .slice none 0 0 ∧ xs = []) ∨ ∃ (g cap : Nat), v = .slice (some ⟨g, 0, none⟩) xs.length cap ∧ g < w.heap.size ∧ 0 < xs.length ∧ xs.length ≤ 1000000 ∧ ∀ j, j < xs.length → w.cell? ⟨g, j, none⟩ = some (.int .i64 (xs.getD j 0))

theorem RowOf.below {w w' : World} {v : Value} {xs : List Int} (h : RowOf w v xs) (hb : Below w.heap.size w w') : RowOf w' v xs := by
  rcases h with h | ⟨g, cap, h1, h2, h3, h4, h5⟩
  · exact .inl h
  · exact .inr ⟨g, cap, h1, Nat.lt_of_lt_of_le h2 hb.size, h3, h4, fun j hj => (hb.cell (p := ⟨g, j, none⟩) h2).trans (h5 j hj)⟩

theorem RowOf.slice {w : World} {v : Value} {xs : List Int} (h : RowOf w v xs) : ∃ (ao : Option Addr) (n c : Nat), v = .slice ao n c := by
  rcases h with ⟨h, _⟩ | ⟨g, cap, h, _⟩
  · exact ⟨none, 0, 0, h⟩
  · exact ⟨_, _, _, h⟩
theorem new_cells (w : World) (t : TypeId) (xs : List Int) (j : Nat) (h : j < xs.length) :
    (w.alloc (.cells (xs.map (Value.int .i64)).toArray t)).cell? ⟨w.heap.size, j, none⟩ = some (.int .i64 (xs.getD j 0)) := by
  rw [World.cell?_alloc_new]; simp [h]

/-! ### Index, Contains -/
/-- A place comes back, or -1: at least 0 where x is among them. -/
def PlacePost (b : Bool) (w : World) (e : Ending) (w' : World) : Prop := ∃ r : Int, -1 ≤ r ∧ r ≤ 1000000 ∧ decide (0 ≤ r) = b ∧ e = .returned (.int .i64 r) ∧ w = w'

theorem contains_stop (xs : List Int) (x : Int) (h : ∀ j, j < xs.length → ¬ (x = xs.getD j 0)) : xs.contains x = false := by
  apply Bool.eq_false_iff.mpr
  intro hc
  have hm : x ∈ xs := by simpa using hc
  obtain ⟨i, hi, e⟩ := List.getElem_of_mem hm
  exact h i hi (by simp [hi, e])
theorem contains_hit (xs : List Int) (x : Int) (j : Nat) (hj : j < xs.length) (h : x = xs.getD j 0) : xs.contains x = true := by
  have : xs.getD j 0 ∈ xs := by simp [hj]
  simpa [h] using this

end Go.Proofs.Ytdfonjnplmfhfaa
