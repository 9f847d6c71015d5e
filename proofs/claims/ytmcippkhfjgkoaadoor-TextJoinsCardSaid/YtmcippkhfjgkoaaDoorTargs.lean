/-
  A slice of bytes, or of strings, that comes in: what it reads as.
-/
import Derived.Test.YtmcippkhfjgkoaaDoorLargs
import Derived.Test.YtmcippkhfjgkoaaDoorTstr
import Derived.SliceStrings
namespace Go.Proofs.YtmcippkhfjgkoaaDoor
open Go.ChangeShapes Go.WideShapes Go.RowKit

theorem Tryd.cells_string : Tryd.prog.cellsOf 9 = 1 := by kernel_rfl
theorem open_names {H : Type} {enc : TypeId × Value → H} {W : World} {r : Reach} {b0 : Nat} {v : Value} {d : DataW H} {ps : List MemPlace} (hval : Value.okWide Tryd.prog W r b0 24 v)
    (h : DataW.Trod enc Tryd.prog W 0 (fun _ => true) true 24 v d ps) :
    ∃ (A : Option Addr) (T : List ByteArray) (c : Nat), v = .slice A T.length c ∧ T.length ≤ c ∧ T.length ≤ 9223372036854775807 ∧ Names W A T ∧ ∀ j, (T.getD j ByteArray.empty).size ≤ 9223372036854775807 := by
  obtain ⟨a0, len, cap, rfl⟩ := okWide_slice Tryd.underlying24 hval
  obtain ⟨fuel, hf⟩ := h
  rcases open_strings Tryd.underlying24 Tryd.underlying9 Tryd.cells_string hf with ⟨hcs, _⟩ | ⟨a, len', cap', ss, hcs, _, hl, hm, hz, _, hcell, hsz⟩
  · simp [Value.cells] at hcs
    obtain ⟨rfl, rfl, rfl⟩ := hcs
    exact ⟨none, [], 0, rfl, Nat.le_refl _, Nat.zero_le _, Names.nil W none, fun j => Nat.zero_le _⟩
  · simp [Value.cells] at hcs
    obtain ⟨rfl, rfl, rfl⟩ := hcs
    simp only [if_true] at hz
    have hlen : (ss.take len).length = len := by rw [List.length_take]; omega
    have hget : ∀ j, j < len → (ss.take len).getD j ByteArray.empty = ss.getD j ByteArray.empty := fun j hj => by
      rw [List.getD_eq_getElem?_getD, List.getElem?_take, if_pos hj, ← List.getD_eq_getElem?_getD]
    refine ⟨some a, ss.take len, cap, by rw [hlen], by rw [hlen]; exact hl, by rw [hlen]; unfold maxLen at hm; omega, fun h0 => ?_, fun j => ?_⟩
    · rw [hlen] at h0 ⊢
      have c0 := hcell 0 (by omega)
      have hspot : a.spot = none := by
        have e : a.add 0 = a := by unfold Addr.add; simp
        rw [e] at c0
        unfold World.cell? at c0
        split at c0
        · split at c0
          · cases c0
          · rename_i h2; simpa using h2
        · cases c0
      obtain ⟨g, o, sp⟩ := a
      obtain rfl : sp = none := hspot
      refine ⟨g, o, rfl, World.block_lt_of_cell? W _ (by rw [Addr.add_lit] at c0; exact c0), fun j hj => ?_⟩
      have cj := hcell j (by omega)
      rw [Addr.add_lit] at cj
      rw [cj, hget j hj]
    · by_cases hj : j < len
      · rw [hget j hj]
        have hjs : j < ss.length := by omega
        have e : ss.getD j ByteArray.empty = ss[j] := by simp [List.getD, hjs]
        rw [e]
        have := hsz _ (List.getElem_mem hjs)
        unfold maxLen at this
        omega
      · have e : (ss.take len).getD j ByteArray.empty = ByteArray.empty := by
          rw [List.getD_eq_getElem?_getD, List.getElem?_eq_none (by rw [hlen]; omega)]; rfl
        rw [e]
        exact Nat.zero_le _
end Go.Proofs.YtmcippkhfjgkoaaDoor
