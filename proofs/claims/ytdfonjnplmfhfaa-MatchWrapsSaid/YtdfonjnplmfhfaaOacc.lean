/-
  Contracts of both Rich and of both Access: what each gives back, for any number.
-/
import Derived.Test.YtdfonjnplmfhfaaOrow
namespace Go.Proofs.Ytdfonjnplmfhfaa
open Go.RowKit
/-! ### Access -/
theorem acc_ways (op : Int) (h : 40 ≤ op) (g : op ≤ 62) : ∃ i : Fin 23, op = 40 + (i.val : Int) := ⟨⟨(op - 40).toNat, by omega⟩, by simp; omega⟩
/-- What Access gives. -/
def AccPost (p : Int × Int × Bool × Bool) (w : World) (e : Ending) (w' : World) : Prop :=
  e = .returned (.tuple #[.int .i64 p.1, .int .i64 p.2.1, .bool p.2.2.1, .bool p.2.2.2]) ∧ Below w.heap.size w w'
/-- The table's cells. -/
def tableB : Array Value := ((List.replicate 40 (0, 0, false, false) ++ accL).flatMap fun (p : Int × Int × Bool × Bool) => [Value.int .i64 p.1, Value.int .i64 p.2.1, Value.bool p.2.2.1]).toArray
end Go.Proofs.Ytdfonjnplmfhfaa
