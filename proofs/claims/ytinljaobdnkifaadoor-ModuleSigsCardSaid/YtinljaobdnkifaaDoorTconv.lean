/-
  []byte of a string: a block with the string's bytes.
-/
import Derived.Test.YtinljaobdnkifaaDoorLrow
import Derived.Test.YtinljaobdnkifaaDoorTnums
import Derived.Lib.ConvBytes
import Derived.Lib.UnsafeStr
import Derived.Lib.Walk
namespace Go.Proofs.YtinljaobdnkifaaDoor
open Go.RowKit

theorem below_bytes (w : World) (e : TypeId) (s : ByteArray) : Below w.heap.size w (Lib.bytesWorld w e s) := by
  unfold Lib.bytesWorld
  refine Lib.below_freeze ((below_drewN (Below.refl _ _) 1).alloc ?_ _) (p := ⟨w.heap.size, _, none⟩) (Nat.le_refl _) 1
  exact Nat.le_refl _
theorem bytes_conv (w : World) (s : ByteArray) : Bytes (Lib.bytesWorld w 5 s) (some ⟨w.heap.size, 0, none⟩) (nums s) := by
  refine ⟨nums_lt s, fun h => ⟨w.heap.size, 0, rfl, by rw [Lib.bytesWorld_size]; omega, fun j hj => ?_⟩⟩
  rw [nums_length] at hj
  rw [Nat.zero_add, Lib.bytesWorld_cell w _ s j hj]
  congr 2
  unfold nums
  rw [Lib.size_eq, Array.length_toList] at hj
  cases h2 : s.data[j]? with
  | none => rw [Array.getElem?_eq_none_iff] at h2; omega
  | some b => simp [List.getD, h2]
theorem conv_any (w : World) (s : ByteArray) : (convert 9 58 (.string s)).run Tryd.prog w = .ok (.slice (some ⟨w.heap.size, 0, none⟩) s.size (grownCap w s.size 0 5)) (Lib.bytesWorld w 5 s) :=
  Lib.run_convert_string_bytes w 9 58 5 s Tryd.underlying9 Tryd.underlying58 Tryd.underlying5
end Go.Proofs.YtinljaobdnkifaaDoor
