/-
  A slice of ints that comes in: what it reads as.
-/
import Derived.Test.YtljhdibnnaepdaaKrow
import Derived.ChangeSlices
import Derived.WideShapes
import Derived.Carry
import Derived.OpenShut
namespace Go.Proofs.Ytljhdibnnaepdaa
open Go.ChangeShapes Go.WideShapes Go.RowKit

theorem Try.laidOutAll : laidOutB Try.prog = true := by kernel_rfl
theorem Try.cells_int : Try.prog.cellsOf 3 = 1 := by kernel_rfl
set_option maxRecDepth 100000 in
theorem open_intsK {H : Type} {enc : TypeId × Value → H} {W : World} {r : Reach} {b0 : Nat} {v : Value} {d : DataW H} {ps : List MemPlace} (hval : Value.okWide Try.prog W r b0 22 v)
    (h : DataW.Trod enc Try.prog W 0 (fun _ => true) true 22 v d ps) :
    ∃ l : List Int, IntsK (fun k => k < W.heap.size) W v l ∧ ∀ z ∈ l, (Lit.int .i64 z).wf = true := by
  obtain ⟨a0, len, cap, rfl⟩ := okWide_slice Try.underlying22 hval
  obtain ⟨fuel, hf⟩ := h
  rcases open_ints Try.underlying22 Try.underlying3 Try.cells_int hf with ⟨hcs, _⟩ | ⟨a, len', cap', zs, hcs, _, hl, hm, hz, _, hcell, hwz⟩
  · simp [Value.cells] at hcs
    obtain ⟨rfl, rfl, rfl⟩ := hcs
    exact ⟨[], IntsK.nil _ W, by simp⟩
  · simp [Value.cells] at hcs
    obtain ⟨rfl, rfl, rfl⟩ := hcs
    simp only [if_true] at hz
    have hlen : (zs.take len).length = len := by rw [List.length_take]; omega
    refine ⟨zs.take len, ⟨some a, cap, by rw [hlen], by rw [hlen]; omega, (fun h => by cases h), fun h0 => ?_⟩, fun z hzm => hwz z (List.mem_of_mem_take hzm)⟩
    rw [hlen] at h0
    have c0 := hcell 0 (by omega)
    have hspot : a.spot = none := by
      have e : a.add 0 = a := by unfold Addr.add; simp
      rw [e] at c0
      unfold World.cell? at c0
      split at c0
      · split at c0
        · cases c0
        · rename_i h2; simpa using h2
      · cases c0
    obtain ⟨g, o, sp⟩ := a
    obtain rfl : sp = none := hspot
    refine ⟨g, o, rfl, World.block_lt_of_cell? W _ (by rw [Addr.add_lit] at c0; exact c0), fun j hj => ?_⟩
    rw [hlen] at hj
    have cj := hcell j (by omega)
    rw [Addr.add_lit] at cj
    rw [cj, List.getD_eq_getElem?_getD, List.getD_eq_getElem?_getD, List.getElem?_take, if_pos hj]
end Go.Proofs.Ytljhdibnnaepdaa
