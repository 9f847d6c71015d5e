/-
  Code of a module in memory, as the statements of stage 7 read it.
-/
import Derived.Test.YtdfonjnplmfhfaaMd
import Derived.Test.YtdfonjnplmfhfaaJB
import Derived.Test.YtdfonjnplmfhfaaKrow
import Derived.ChangeSlices
import Derived.WideShapes
import Derived.Carry
import Derived.OpenShut
namespace Go.Proofs.Ytdfonjnplmfhfaa
open Go.RowKit

theorem CodeK.code {w : World} {v : Value} {c : List Ins} (h : CodeK (fun k => k < w.heap.size) w v c) : ∃ A cap, v = .slice A c.length cap ∧ c.length ≤ cap ∧ CodeAt w A c.length (c.map Ins.op) := by
  obtain ⟨A, cap, rfl, h1, _, _, h3⟩ := h
  refine ⟨A, cap, rfl, h1, fun hm => ?_⟩
  obtain ⟨g, o, rfl, hg, hc⟩ := h3 hm
  refine ⟨g, o, rfl, hg, fun j hj => ?_⟩
  have hop : (c.map Ins.op).getD j 0 = (c.getD j ins0).op := by
    rw [List.getD_eq_getElem?_getD, List.getD_eq_getElem?_getD, List.getElem?_map, List.getElem?_eq_getElem hj]; rfl
  obtain ⟨u0, k0, rfl⟩ := hc j 0 hj (by omega)
  obtain ⟨u1, k1, rfl⟩ := hc j 1 hj (by omega)
  obtain ⟨u2, k2, rfl⟩ := hc j 2 hj (by omega)
  obtain ⟨u3, k3, rfl⟩ := hc j 3 hj (by omega)
  obtain ⟨u4, k4, h4⟩ := hc j 4 hj (by omega)
  obtain ⟨Al, cl, rfl, _⟩ := IntsK.form h4
  rw [hop]
  exact ⟨_, _, _, Al, _, cl, k0, k1, k2, k3, k4⟩
/-- A function in the row: what its cells hold. -/
theorem FunsK.at_ {w : World} {g o m c : Nat} {l : List Fnc} (h : FunsK (fun k => k < w.heap.size) w (.slice (some ⟨g, o, none⟩) m c) l) (j : Nat) (hj : j < l.length) :
    ∃ (Al : Option Addr) (nl cl : Nat) (Ac : Option Addr) (cc : Nat), w.cell? ⟨g, o + j * 3, none⟩ = some (.int .i64 (l.getD j fnc0).ty) ∧ w.cell? ⟨g, o + j * 3 + 1, none⟩ = some (.slice Al nl cl) ∧ w.cell? ⟨g, o + j * 3 + 2, none⟩ = some (.slice Ac (l.getD j fnc0).code.length cc) ∧ (l.getD j fnc0).code.length ≤ cc ∧ CodeAt w Ac (l.getD j fnc0).code.length ((l.getD j fnc0).code.map Ins.op) := by
  obtain ⟨u0, k0, rfl⟩ := CellsK.at_ h j 0 hj (by omega)
  obtain ⟨u1, k1, h1⟩ := CellsK.at_ h j 1 hj (by omega)
  obtain ⟨u2, k2, h2⟩ := CellsK.at_ h j 2 hj (by omega)
  obtain ⟨Al, cl, rfl, _⟩ := IntsK.form h1
  obtain ⟨Ac, cc, rfl, hcc, hcd⟩ := CodeK.code h2
  exact ⟨Al, _, cl, Ac, cc, k0, k1, k2, hcc, hcd⟩
theorem fnc_mem {α : Type} (l : List α) (j : Nat) (d : α) (h : j < l.length) : l.getD j d ∈ l := by
  rw [List.getD_eq_getElem?_getD, List.getElem?_eq_getElem h]; exact List.getElem_mem h

/-! ### A slice of ints that comes in -/
open Go.ChangeShapes Go.WideShapes

theorem Try.laidOutAll : laidOutB Try.prog = true := by kernel_rfl
theorem Try.cells_int : Try.prog.cellsOf 3 = 1 := by kernel_rfl
set_option maxRecDepth 100000 in
theorem open_intsK {H : Type} {enc : TypeId × Value → H} {W : World} {r : Reach} {b0 : Nat} {v : Value} {d : DataW H} {ps : List MemPlace} (hval : Value.okWide Try.prog W r b0 22 v)
    (h : DataW.Trod enc Try.prog W 0 (fun _ => true) true 22 v d ps) :
    ∃ l : List Int, IntsK (fun k => k < W.heap.size) W v l ∧ ∀ z ∈ l, (Lit.int .i64 z).wf = true := by
  obtain ⟨a0, len, cap, rfl⟩ := okWide_slice Try.underlying22 hval
  obtain ⟨fuel, hf⟩ := h
  rcases open_ints Try.underlying22 Try.underlying3 Try.cells_int hf with ⟨hcs, _⟩ | ⟨a, len', cap', zs, hcs, _, hl, hm, hz, _, hcell, hwz⟩
  · simp [Value.cells] at hcs
    obtain ⟨rfl, rfl, rfl⟩ := hcs
    exact ⟨[], IntsK.nil _ W, by simp⟩
  · simp [Value.cells] at hcs
    obtain ⟨rfl, rfl, rfl⟩ := hcs
    simp only [if_true] at hz
    have hlen : (zs.take len).length = len := by rw [List.length_take]; omega
    refine ⟨zs.take len, ⟨some a, cap, by rw [hlen], by rw [hlen]; omega, (fun h => by cases h), fun h0 => ?_⟩, fun z hzm => hwz z (List.mem_of_mem_take hzm)⟩
    rw [hlen] at h0
    have c0 := hcell 0 (by omega)
    have hspot : a.spot = none := by
      have e : a.add 0 = a := by unfold Addr.add; simp
      rw [e] at c0
      unfold World.cell? at c0
      split at c0
      · split at c0
        · cases c0
        · rename_i h2; simpa using h2
      · cases c0
    obtain ⟨g, o, sp⟩ := a
    obtain rfl : sp = none := hspot
    refine ⟨g, o, rfl, World.block_lt_of_cell? W _ (by rw [Addr.add_lit] at c0; exact c0), fun j hj => ?_⟩
    rw [hlen] at hj
    have cj := hcell j (by omega)
    rw [Addr.add_lit] at cj
    rw [cj, List.getD_eq_getElem?_getD, List.getD_eq_getElem?_getD, List.getElem?_take, if_pos hj]
end Go.Proofs.Ytdfonjnplmfhfaa
