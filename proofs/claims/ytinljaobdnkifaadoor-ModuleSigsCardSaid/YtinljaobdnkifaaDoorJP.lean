/-
  What the rows list, where it is one table alone: as the program's text lays them; what of it the walks want.
  A slice of ints that comes in.
  Proved: for every slice of ints ModuleSigs returns true and its argument reads as before, where the one package-level table that the row lists reads as the program text lays it (tied by the card); no other condition.
-/
import Derived.Test.YtinljaobdnkifaaDoorRows
import Derived.Test.YtinljaobdnkifaaDoorTsz
import Derived.ProofKit
import Derived.LaidMore
import Derived.OpenShut
import Derived.Stop.Joined
import Derived.Stop.LaidErr
import Derived.Lib.LaidTab
import Derived.Test.YtinljaobdnkifaaDoorKrow
import Derived.ChangeSlices
import Derived.WideShapes
import Derived.Carry
import Derived.Test.YtinljaobdnkifaaDoorCards
import Derived.Test.YtinljaobdnkifaaDoorTie
import Derived.WalkKit
import Derived.ChangeMaps5
import Derived.SevenTiedAt
import Derived.Test.YtinljaobdnkifaaDoorRsigs
namespace Go.Proofs.YtinljaobdnkifaaDoor
open Go.ChangeShapes Go.WideShapes Go.ChangeAt Go.RowKit

def laidL : List (String × DataW Unit) := [("plainsong/text.least", Rows.laid_plainsong_text_least)]
theorem ownL : ownKnob Tryd.prog.godebug = none := by kernel_rfl
theorem gLeast : Tryd.prog.globalNamed "plainsong/text.least" = some 0 := by kernel_rfl
theorem tLeast : (Tryd.prog.globals[0]?).map (·.type) = some 129 := by kernel_rfl
theorem cInt : Tryd.prog.cellsOf 3 = 1 := by kernel_rfl
theorem cLeast : Tryd.prog.cellsOf 129 = 5 := by kernel_rfl
/-- The door's own heap meets the condition. -/
theorem door_met (os : Os) (args : Array Value) : laidMetH Tryd.prog laidL ((World.doorLaid Tryd.prog 14 os).forCall (fun _ _ => 0) ⟨#[], args, []⟩).memory :=
  laidMetH_of_parts3 (fuel := 8) (laidMet_of_run' 8 (by kernel_rfl) (by kernel_rfl)) (by kernel_rfl) (by kernel_rfl)
/-- What the condition gives the walks. -/
theorem tab_of_laid {W : World} (h : laidMetH Tryd.prog laidL W) : Tab W := by
  rw [MakeChecks.laidMetH_plain _ _ _ (by kernel_rfl)] at h
  have h4 : laidMet Tryd.prog [("plainsong/text.least", Lib.tabData .i64 [0, 0, 128, 2048, 65536])] W := h
  have hT := Lib.tabIs_of_head gLeast tLeast Tryd.underlying129 Tryd.underlying3 cInt cLeast h4
  exact fun i hi => hT.cell gLeast i hi
end Go.Proofs.YtinljaobdnkifaaDoor
namespace Go.Proofs.YtinljaobdnkifaaDoor
open Go.RowKit

/-! ### A slice of ints that comes in -/
open Go.ChangeShapes Go.WideShapes

theorem Tryd.laidOutAll : laidOutB Tryd.prog = true := by kernel_rfl
theorem Tryd.cells_int : Tryd.prog.cellsOf 3 = 1 := by kernel_rfl
set_option maxRecDepth 100000 in
theorem open_intsK {H : Type} {enc : TypeId × Value → H} {W : World} {r : Reach} {b0 : Nat} {v : Value} {d : DataW H} {ps : List MemPlace} (hval : Value.okWide Tryd.prog W r b0 22 v)
    (h : DataW.Trod enc Tryd.prog W 0 (fun _ => true) true 22 v d ps) :
    ∃ l : List Int, IntsK (fun k => k < W.heap.size) W v l ∧ ∀ z ∈ l, (Lit.int .i64 z).wf = true := by
  obtain ⟨a0, len, cap, rfl⟩ := okWide_slice Tryd.underlying22 hval
  obtain ⟨fuel, hf⟩ := h
  rcases open_ints Tryd.underlying22 Tryd.underlying3 Tryd.cells_int hf with ⟨hcs, _⟩ | ⟨a, len', cap', zs, hcs, _, hl, hm, hz, _, hcell, hwz⟩
  · simp [Value.cells] at hcs
    obtain ⟨rfl, rfl, rfl⟩ := hcs
    exact ⟨[], IntsK.nil _ W, by simp⟩
  · simp [Value.cells] at hcs
    obtain ⟨rfl, rfl, rfl⟩ := hcs
    simp only [if_true] at hz
    have hlen : (zs.take len).length = len := by rw [List.length_take]; omega
    refine ⟨zs.take len, ⟨some a, cap, by rw [hlen], by rw [hlen]; omega, (fun h => by cases h), fun h0 => ?_⟩, fun z hzm => hwz z (List.mem_of_mem_take hzm)⟩
    rw [hlen] at h0
    have c0 := hcell 0 (by omega)
    have hspot : a.spot = none := by
      have e : a.add 0 = a := by unfold Addr.add; simp
      rw [e] at c0
      unfold World.cell? at c0
      split at c0
      · split at c0
        · cases c0
        · rename_i h2; simpa using h2
      · cases c0
    obtain ⟨g, o, sp⟩ := a
    obtain rfl : sp = none := hspot
    refine ⟨g, o, rfl, World.block_lt_of_cell? W _ (by rw [Addr.add_lit] at c0; exact c0), fun j hj => ?_⟩
    rw [hlen] at hj
    have cj := hcell j (by omega)
    rw [Addr.add_lit] at cj
    rw [cj, List.getD_eq_getElem?_getD, List.getD_eq_getElem?_getD, List.getElem?_take, if_pos hj]
end Go.Proofs.YtinljaobdnkifaaDoor
namespace Go.Proofs.YtinljaobdnkifaaDoor
open Go.ChangeShapes Go.WideShapes Go.ChangeAt Go.RowKit
set_option linter.unusedVariables false

set_option maxRecDepth 100000 in
theorem moduleSigs_lifted (os : Os) (started : os.Started) (H : Type) (enc : TypeId × Value → H) :
    ReturnsInHanded {} Tryd.checked os 3 .any (fun w args => (Rows.moduleSigsSpec.pre enc Tryd.prog Tryd.f3 [] false w args ∧ laidMetH Tryd.prog laidL w) ∧ sizedMet enc Tryd.prog Tryd.f3 (OpenSpec.ofChange Rows.moduleSigsSpec) false w args)
      (Rows.moduleSigsSpec.post enc Tryd.prog Tryd.f3 false true false false) := by
  refine returnsInHanded_of_change_and (C := Tryd.checked) (X := fun w _ => laidMetH Tryd.prog laidL w) (fun _ _ _ hh h => h.of_heap hh) ownL started (by kernel_rfl) Tryd.func3
    (ChangeSpec.witness_shaped (enc := enc) (C := Tryd.checked) (os := os) (X := fun w _ => laidMetH Tryd.prog laidL w) false (World.doorLaid Tryd.prog 14 os) #[.slice none 0 0] 8 rfl (World.shaped_of_RefB (by kernel_rfl) (by kernel_rfl)) (by kernel_rfl) (by kernel_rfl) (by kernel_rfl) (door_met os _)) ?_
  intro W base args ds gs before hval0 hW _ _ hL _
  have hval : ∀ (j : Nat) t v, Tryd.f3.params[j]? = some t → args[j]? = some v → Value.okWide Tryd.prog W .any base t v := hval0
  have hW' := hW
  obtain ⟨p, q, hA0, hV, rfl, hfz, hnd⟩ := hW
  have hA : DataW.TrodAll enc Tryd.prog W 0 (fun _ => true) true Tryd.f3.params.toList args.toList ds p := hA0
  rw [Tryd.params3] at hA hval
  obtain ⟨v0, vs0, d0, ds0, p0, q0, hargs, rfl, rfl, h0, r0⟩ := trodAll_cons hA
  obtain ⟨rfl, rfl, rfl⟩ := trodAll_nil r0
  obtain rfl : args = #[v0] := by cases args; simp_all
  obtain ⟨rfl, rfl⟩ := trodVars_none hV
  have h0k := h0
  obtain ⟨l0, hi0, hb0⟩ := open_intsK (hval 0 22 v0 rfl rfl) h0
  have ht := tab_of_laid hL
  clear hA0 hval0
  simp only [List.append_nil] at hW'
  refine (sigs_walk W ht v0 l0 hi0).mono fun e W' ⟨he, hg⟩ => ?_
  subst he
  exact ⟨_, rfl, _, _, _, [], _, [], hW', trodAll_mk1 (shut_bool Tryd.underlying4 _), trodAll_cons_mk (Below.trod Tryd.laidOutAll (by kernel_rfl) (of_decide_eq_true (by kernel_rfl)) h0k hg (fun x hx => hW'.lt x (by simp [hx]))) (trodAll_mk0), rfl, hg.frame _, fun h => by cases h⟩

theorem moduleSigs_row : Rows.ModuleSigsSaid :=
  OpenClaim.holds_of_wide 3 Tryd.f3 rfl rfl rfl rfl rfl rfl rfl ⟨rfl, rfl, rfl, rfl, rfl⟩ rfl rfl rfl rfl rfl (by kernel_rfl) Tryd.func3 (by kernel_rfl)
    (of_decide_eq_true (by kernel_rfl)) (by unfold Func.isWrapper; first | (rw [if_pos (by decide +kernel)]; kernel_rfl) | (rw [if_neg (by decide +kernel)]; exact ⟨rfl, rfl⟩))
    (fun os started H enc _ => moduleSigs_lifted os started H enc)

/-- The statement: the row, its tables tied to the program's text. -/
theorem moduleSigs_proved : Rows.ModuleSigsCardSaid :=
  Claim7.holds_tied_plain_at .later [] [.data] true Rows.moduleSigsCard.stood.harness false
    moduleSigs_row (fun _ h => by cases h) (by kernel_rfl) (fun _ h => by cases h) moduleSigs_row_tie rfl ⟨rfl, rfl⟩ (by kernel_rfl) rfl
    (fun f fn hf hfn => by
      obtain rfl : f = 3 := Option.some.inj ((show Tryd.prog.funcNamed "plainsong/plainsonglaw6.ModuleSigs" = some 3 by kernel_rfl).symm.trans hf) |>.symm
      obtain rfl : fn = Tryd.f3 := (Option.some.inj (Tryd.func3.symm.trans hfn)).symm
      exact ⟨by kernel_rfl, fun j t ht => by
        rw [Tryd.params3] at ht
        have hm : t ∈ [22] := by simpa using Array.mem_of_getElem? ht
        have hall : ([22].all fun u => !Tryd.prog.wantsStandIn u) = true := by kernel_rfl
        exact (show Tryd.prog.wantsStandIn t = false by simpa using List.all_eq_true.1 hall t hm)⟩)
    (by kernel_rfl)
#print axioms moduleSigs_proved
end Go.Proofs.YtinljaobdnkifaaDoor
