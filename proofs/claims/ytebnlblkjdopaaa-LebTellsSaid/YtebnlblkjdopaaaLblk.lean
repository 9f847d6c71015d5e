/-
  A block of bytes that the call made and writes.
-/
import Derived.Test.YtebnlblkjdopaaaLrow
import Derived.Laws.MakeOwn
namespace Go.Proofs.Ytebnlblkjdopaaa
open Go.RowKit

/-- Block B is new since w, and just the bytes l; nothing older has turned. -/
structure HeldB (w : World) (B : Nat) (l : List Nat) (wr : World) : Prop where
  blk : wr.heap[B]? = some (.cells (l.map byt).toArray 5 (0, 0))
  new : w.heap.size ≤ B
  acc : Below w.heap.size w wr
  byte : ∀ x ∈ l, x < 256
theorem HeldB.lt {w wr : World} {B : Nat} {l : List Nat} (h : HeldB w B l wr) : B < wr.heap.size := (Array.getElem?_eq_some_iff.1 h.blk).1
theorem HeldB.next {w wr w' : World} {B : Nat} {l : List Nat} (h : HeldB w B l wr) (hb : Below wr.heap.size wr w') : HeldB w B l w' :=
  ⟨(hb.block B h.lt).trans h.blk, h.new, below_then h.acc hb, h.byte⟩
theorem HeldB.cell {w wr : World} {B : Nat} {l : List Nat} (h : HeldB w B l wr) (j : Nat) (hj : j < l.length) : wr.cell? ⟨B, j, none⟩ = some (.int .u8 (l.getD j 0 : Nat)) := by
  rw [cell_of_row wr B j _ _ _ h.blk]; simp [hj, byt]
theorem HeldB.frozen {w wr : World} {B : Nat} {l : List Nat} (h : HeldB w B l wr) (j : Nat) : wr.frozen? ⟨B, j, none⟩ = false := by
  simp [World.frozen?, h.blk]
theorem HeldB.bytes {w wr : World} {B : Nat} {l : List Nat} (h : HeldB w B l wr) : Bytes wr (some ⟨B, 0, none⟩) l :=
  ⟨h.byte, fun _ => ⟨B, 0, rfl, h.lt, fun j hj => by rw [Nat.zero_add]; exact h.cell j hj⟩⟩
theorem HeldB.set {w wr : World} {B : Nat} {l : List Nat} (h : HeldB w B l wr) (j x : Nat) (hx : x < 256) : HeldB w B (l.set j x) (wr.setCell ⟨B, j, none⟩ (.int .u8 (x : Int))) := by
  refine ⟨?_, h.new, h.acc.setCell h.new _, fun y hy => ?_⟩
  · have e : (l.set j x).map byt = (l.map byt).set j (byt x) := by simp [List.map_set]
    have h2 := h.blk
    rw [e]
    simp [World.setCell, Array.getElem?_modify, h2, byt]
  · rcases List.mem_or_eq_of_mem_set hy with h1 | h1
    · exact h.byte y h1
    · omega
theorem made_bytes (n : Nat) : madeCells (Value.int .u8 0).cells (n * 1) = Array.replicate n (byt 0) := by
  apply Array.ext'
  simp [madeCells, byt, Value.cells]
  apply List.ext_getElem?
  intro i
  by_cases h : i < n
  · simp [h, Nat.mod_one]
  · simp [h]
/-- make([]byte, n). -/
theorem run_make_bytes (n : Nat) (hn : n ≤ 1000000) (w : World) : (Instr.makeSlice 23 (.int .i64 (n : Int)) (.int .i64 (n : Int))).run Try.prog w = .ok (.slice (some ⟨w.heap.size, 0, none⟩) n n) (w.alloc (.cells (Array.replicate n (byt 0)) 5)) := by
  obtain ⟨i0, hi, hz0, hz1, hz2⟩ := info_parts Try.info_byte
  have h := run_make (P := Try.prog) w 23 5 i0 _ Try.underlying23 hi hz0 .i64 .i64 n n (by omega) (by omega) (by rw [hz2]; omega) (by omega)
  rw [hz1, Int.toNat_natCast, made_bytes] at h
  exact h
theorem held_made (w wr : World) (n : Nat) (h : Below w.heap.size w wr) : HeldB w wr.heap.size (List.replicate n 0) (wr.alloc (.cells (Array.replicate n (byt 0)) 5)) :=
  ⟨by rw [show ((List.replicate n 0).map byt).toArray = Array.replicate n (byt 0) by simp]; exact heap_alloc_new wr _, h.size, h.alloc h.size _, fun x hx => by have := List.eq_of_mem_replicate hx; omega⟩
end Go.Proofs.Ytebnlblkjdopaaa
