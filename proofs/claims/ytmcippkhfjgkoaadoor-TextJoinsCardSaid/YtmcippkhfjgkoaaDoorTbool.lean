/-
  A block of bools that the call made and writes; contract of slices.Index on bools.
-/
import Derived.Test.YtmcippkhfjgkoaaDoorLrow
import Derived.Laws.MakeOwn
namespace Go.Proofs.YtmcippkhfjgkoaaDoor
open Go.RowKit

/-- Block B is new since w, and just the bools U; nothing older has turned. -/
structure HeldU (w : World) (B : Nat) (U : List Bool) (wr : World) : Prop where
  blk : wr.heap[B]? = some (.cells (U.map Value.bool).toArray 4 (0, 0))
  new : w.heap.size ≤ B
  acc : Below w.heap.size w wr
theorem HeldU.lt {w wr : World} {B : Nat} {U : List Bool} (h : HeldU w B U wr) : B < wr.heap.size := (Array.getElem?_eq_some_iff.1 h.blk).1
theorem HeldU.next {w wr w' : World} {B : Nat} {U : List Bool} (h : HeldU w B U wr) (hb : Below wr.heap.size wr w') : HeldU w B U w' :=
  ⟨(hb.block B h.lt).trans h.blk, h.new, below_then h.acc hb⟩
theorem HeldU.cell {w wr : World} {B : Nat} {U : List Bool} (h : HeldU w B U wr) (j : Nat) (hj : j < U.length) : wr.cell? ⟨B, j, none⟩ = some (.bool (U.getD j false)) := by
  rw [cell_of_row wr B j _ _ _ h.blk]; simp [hj]
theorem HeldU.frozen {w wr : World} {B : Nat} {U : List Bool} (h : HeldU w B U wr) (j : Nat) : wr.frozen? ⟨B, j, none⟩ = false := by
  simp [World.frozen?, h.blk]
theorem HeldU.set {w wr : World} {B : Nat} {U : List Bool} (h : HeldU w B U wr) (j : Nat) (b : Bool) : HeldU w B (U.set j b) (wr.setCell ⟨B, j, none⟩ (.bool b)) := by
  refine ⟨?_, h.new, h.acc.setCell h.new _⟩
  have e : (U.set j b).map Value.bool = (U.map Value.bool).set j (.bool b) := by simp [List.map_set]
  have h2 := h.blk
  rw [e]
  simp [World.setCell, Array.getElem?_modify, h2]
theorem made_bools (n : Nat) : madeCells (Value.bool false).cells (n * 1) = Array.replicate n (.bool false) := by
  apply Array.ext'
  simp [madeCells, Value.cells]
  apply List.ext_getElem?
  intro i
  by_cases h : i < n
  · simp [h, Nat.mod_one]
  · simp [h]
theorem Tryd.info_bool : (Tryd.prog.info? 4).map (fun i => (i.zero, i.size, i.bytes)) = some (some (.bool false), 1, 1) := by kernel_rfl
/-- make([]bool, n). -/
theorem run_make_bools (n : Nat) (hn : n ≤ 1000000) (w : World) : (Instr.makeSlice 34 (.int .i64 (n : Int)) (.int .i64 (n : Int))).run Tryd.prog w = .ok (.slice (some ⟨w.heap.size, 0, none⟩) n n) (w.alloc (.cells (Array.replicate n (.bool false)) 4)) := by
  obtain ⟨i0, hi, hz0, hz1, hz2⟩ := info_parts Tryd.info_bool
  have h := run_make (P := Tryd.prog) w 34 4 i0 _ Tryd.underlying34 hi hz0 .i64 .i64 n n (by omega) (by omega) (by rw [hz2]; omega) (by omega)
  rw [hz1, Int.toNat_natCast, made_bools] at h
  exact h
theorem heldU_made (w wr : World) (n : Nat) (h : Below w.heap.size w wr) : HeldU w wr.heap.size (List.replicate n false) (wr.alloc (.cells (Array.replicate n (.bool false)) 4)) :=
  ⟨by rw [show ((List.replicate n false).map Value.bool).toArray = Array.replicate n (.bool false) by simp]; exact heap_alloc_new wr _, h.size, h.alloc h.size _⟩

/-- The first that is false. -/
theorem indexU_any (g o n cap k : Nat) (hn : n ≤ 1000000) (hk : k < n) (w : World) (hc : ∀ j, j < k → w.cell? ⟨g, o + j, none⟩ = some (.bool true)) (hk0 : w.cell? ⟨g, o + k, none⟩ = some (.bool false)) :
    Calls Tryd.prog 19 #[.slice (some ⟨g, o, none⟩) n cap, .bool false] w fun e w' => e = .returned (.int .i64 (k : Int)) ∧ w = w' := by
  have HC := Lib.hid hc
  have HK := Lib.hid hk0
  clear hc hk0
  go_enter Tryd.func19, Tryd.ntmps19
  go_wp2
  go_loop [8] (fun i => ∃ j : Nat, j ≤ k ∧ i = .int .i64 (j : Int)) (fun i => n - (intOf i).toNat)
  case atStart => exact ⟨0, Nat.zero_le _, rfl⟩
  case round =>
    obtain ⟨j, hj, rfl⟩ := hrel
    by_cases hlt : j < k
    · have c0 := HC.out j hlt
      go_wp2
      go_round
      case rel => exact ⟨j + 1, by omega, by go_num⟩
      case measure => simp [intOf]; omega
    · obtain rfl : j = k := by omega
      have c0 := HK.out
      go_wp2
      go_ret
      exact ⟨rfl, rfl⟩
end Go.Proofs.YtmcippkhfjgkoaaDoor
