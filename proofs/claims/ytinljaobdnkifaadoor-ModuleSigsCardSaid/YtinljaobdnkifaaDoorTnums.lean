/-
  A string's bytes as numbers.
-/
import Derived.WalkKit
import Derived.Lib.Strings
import Derived.Test.YtinljaobdnkifaaDoorTSpec
namespace Go.Proofs.YtinljaobdnkifaaDoor
open Go.RowKit
/-- A string's bytes as numbers. -/
def nums (s : ByteArray) : List Nat := s.data.toList.map UInt8.toNat
theorem map_toNat_inj : ∀ (a b : List UInt8), a.map UInt8.toNat = b.map UInt8.toNat → a = b
  | [], [], _ => rfl
  | [], _ :: _, h => by cases h
  | _ :: _, [], h => by cases h
  | x :: a, y :: b, h => by
    simp only [List.map_cons, List.cons.injEq] at h
    rw [UInt8.toNat_inj.1 h.1, map_toNat_inj a b h.2]
theorem nums_beq (s t : ByteArray) : (s.toList == t.toList) = decide (nums s = nums t) := by
  rw [Lib.toList_data, Lib.toList_data]
  unfold nums
  rw [Bool.eq_iff_iff]
  simp only [beq_iff_eq, decide_eq_true_eq]
  exact ⟨fun h => by rw [h], map_toNat_inj _ _⟩
theorem nums_lt (s : ByteArray) : ∀ x ∈ nums s, x < 256 := by
  intro x hx
  obtain ⟨b, _, rfl⟩ := List.mem_map.1 hx
  exact UInt8.toNat_lt b
theorem nums_length (s : ByteArray) : (nums s).length = s.size := by
  unfold nums; rw [List.length_map, Lib.size_eq]
theorem nums_append (s t : ByteArray) : nums (s ++ t) = nums s ++ nums t := by
  unfold nums
  rw [show (s ++ t).data = s.data ++ t.data from ByteArray.data_append]
  simp
theorem nums_extract (s : ByteArray) (a b : Nat) : nums (s.extract a b) = ((nums s).drop a).take (b - a) := by
  unfold nums
  rw [Lib.extract_data, List.map_take, List.map_drop]
theorem nums_ne {s t : ByteArray} (h : nums s ≠ nums t) : (s.toList == t.toList) = false := by rw [nums_beq, decide_eq_false h]
theorem nums_is {s t : ByteArray} (h : nums s = nums t) : (s.toList == t.toList) = true := by rw [nums_beq, decide_eq_true h]
end Go.Proofs.YtinljaobdnkifaaDoor
