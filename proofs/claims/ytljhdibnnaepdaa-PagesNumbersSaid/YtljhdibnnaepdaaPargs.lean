/-
  Slices of bytes and of ints that come in: what they read as.
-/
import Derived.Test.YtljhdibnnaepdaaLrow
import Derived.Test.YtljhdibnnaepdaaIargs
import Derived.ChangeSlices
import Derived.WideShapes
import Derived.Carry
import Derived.OpenShut
namespace Go.Proofs.Ytljhdibnnaepdaa
open Go.ChangeShapes Go.WideShapes Go.RowKit

theorem Try.cells_byte : Try.prog.cellsOf 5 = 1 := by kernel_rfl
theorem getD_map_toNat (zs : List Int) (n j : Nat) (h : j < n) (hz : n ≤ zs.length) (h0 : ∀ z ∈ zs, 0 ≤ z) : ((((zs.take n).map Int.toNat).getD j 0 : Nat) : Int) = zs.getD j 0 := by
  have hj : j < zs.length := by omega
  have e1 : ((zs.take n).map Int.toNat).getD j 0 = (zs[j]).toNat := by
    rw [List.getD_eq_getElem?_getD, List.getElem?_map, List.getElem?_take, if_pos h, List.getElem?_eq_getElem hj]; rfl
  have e2 : zs.getD j 0 = zs[j] := by rw [List.getD_eq_getElem?_getD, List.getElem?_eq_getElem hj]; rfl
  rw [e1, e2, Int.toNat_of_nonneg (h0 _ (List.getElem_mem hj))]
theorem wf_u8 {n : Int} (h : (Lit.int .u8 n).wf = true) : 0 ≤ n ∧ n ≤ 255 := by
  have := bounds_u8 h; exact this
theorem open_bytes {H : Type} {enc : TypeId × Value → H} {W : World} {r : Reach} {b0 : Nat} {v : Value} {d : DataW H} {ps : List MemPlace} (hval : Value.okWide Try.prog W r b0 27 v)
    (h : DataW.Trod enc Try.prog W 0 (fun _ => true) true 27 v d ps) :
    ∃ (A : Option Addr) (l : List Nat) (c : Nat), v = .slice A l.length c ∧ l.length ≤ c ∧ l.length ≤ 9223372036854775807 ∧ Bytes W A l := by
  obtain ⟨a0, len, cap, rfl⟩ := okWide_slice Try.underlying27 hval
  obtain ⟨fuel, hf⟩ := h
  rcases open_ints Try.underlying27 Try.underlying5 Try.cells_byte hf with ⟨hcs, _⟩ | ⟨a, len', cap', zs, hcs, _, hl, hm, hz, _, hcell, hwz⟩
  · simp [Value.cells] at hcs
    obtain ⟨rfl, rfl, rfl⟩ := hcs
    exact ⟨none, [], 0, rfl, Nat.le_refl _, Nat.zero_le _, Bytes.nil W none⟩
  · simp [Value.cells] at hcs
    obtain ⟨rfl, rfl, rfl⟩ := hcs
    simp only [if_true] at hz
    have hlen : ((zs.take len).map Int.toNat).length = len := by simp; omega
    have hw : ∀ z ∈ zs, 0 ≤ z ∧ z ≤ 255 := fun z hzm => wf_u8 (hwz z hzm)
    refine ⟨some a, (zs.take len).map Int.toNat, cap, by rw [hlen], by rw [hlen]; exact hl, by rw [hlen]; unfold maxLen at hm; omega, fun x hx => ?_, fun h0 => ?_⟩
    · obtain ⟨z, hzm, rfl⟩ := List.mem_map.1 hx
      have := hw z (List.mem_of_mem_take hzm)
      omega
    · rw [hlen] at h0 ⊢
      have c0 := hcell 0 (by omega)
      have hspot : a.spot = none := by
        have e : a.add 0 = a := by unfold Addr.add; simp
        rw [e] at c0
        unfold World.cell? at c0
        split at c0
        · split at c0
          · cases c0
          · rename_i h2; simpa using h2
        · cases c0
      obtain ⟨g, o, sp⟩ := a
      obtain rfl : sp = none := hspot
      refine ⟨g, o, rfl, World.block_lt_of_cell? W _ (by rw [Addr.add_lit] at c0; exact c0), fun j hj => ?_⟩
      have cj := hcell j (by omega)
      rw [Addr.add_lit] at cj
      rw [cj, ← getD_map_toNat zs len j hj (by omega) (fun z hzm => (hw z hzm).1)]
end Go.Proofs.Ytljhdibnnaepdaa
