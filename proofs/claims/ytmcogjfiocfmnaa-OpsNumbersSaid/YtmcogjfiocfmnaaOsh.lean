/-
  Contract of ops.shape: what it gives back for an operation.
-/
import Derived.Test.YtmcogjfiocfmnaaOrow
namespace Go.Proofs.Ytmcogjfiocfmnaa
open Go.RowKit

theorem quad_built (a b c d : Int) (w : World) : (Instr.build 48 #[(0, .int .i64 a), (1, .int .i64 b), (2, .int .i64 c), (3, .int .i64 d)]).run Try.prog w = .ok (.agg #[.int .i64 a, .int .i64 b, .int .i64 c, .int .i64 d]) w := run_build w _ _ _ (by kernel_rfl)
/-- The rows' cells. -/
def rowsB : Array Value := (shapeL.flatMap fun p => [Value.int .i64 p.1, Value.int .i64 (p.2.1 : Int), Value.int .i64 p.2.2.1, Value.int .i64 p.2.2.2]).toArray
theorem rows_at : ∀ k : Fin 23, rowsB[k.val * 4]? = some (.int .i64 (shapeL.getD k.val (0, 0, 0, 0)).1) ∧ rowsB[k.val * 4 + 1]? = some (.int .i64 ((shapeL.getD k.val (0, 0, 0, 0)).2.1 : Int)) ∧ rowsB[k.val * 4 + 2]? = some (.int .i64 (shapeL.getD k.val (0, 0, 0, 0)).2.2.1) ∧ rowsB[k.val * 4 + 3]? = some (.int .i64 (shapeL.getD k.val (0, 0, 0, 0)).2.2.2)
  | ⟨0, _⟩ => ⟨rfl, rfl, rfl, rfl⟩
  | ⟨1, _⟩ => ⟨rfl, rfl, rfl, rfl⟩
  | ⟨2, _⟩ => ⟨rfl, rfl, rfl, rfl⟩
  | ⟨3, _⟩ => ⟨rfl, rfl, rfl, rfl⟩
  | ⟨4, _⟩ => ⟨rfl, rfl, rfl, rfl⟩
  | ⟨5, _⟩ => ⟨rfl, rfl, rfl, rfl⟩
  | ⟨6, _⟩ => ⟨rfl, rfl, rfl, rfl⟩
  | ⟨7, _⟩ => ⟨rfl, rfl, rfl, rfl⟩
  | ⟨8, _⟩ => ⟨rfl, rfl, rfl, rfl⟩
  | ⟨9, _⟩ => ⟨rfl, rfl, rfl, rfl⟩
  | ⟨10, _⟩ => ⟨rfl, rfl, rfl, rfl⟩
  | ⟨11, _⟩ => ⟨rfl, rfl, rfl, rfl⟩
  | ⟨12, _⟩ => ⟨rfl, rfl, rfl, rfl⟩
  | ⟨13, _⟩ => ⟨rfl, rfl, rfl, rfl⟩
  | ⟨14, _⟩ => ⟨rfl, rfl, rfl, rfl⟩
  | ⟨15, _⟩ => ⟨rfl, rfl, rfl, rfl⟩
  | ⟨16, _⟩ => ⟨rfl, rfl, rfl, rfl⟩
  | ⟨17, _⟩ => ⟨rfl, rfl, rfl, rfl⟩
  | ⟨18, _⟩ => ⟨rfl, rfl, rfl, rfl⟩
  | ⟨19, _⟩ => ⟨rfl, rfl, rfl, rfl⟩
  | ⟨20, _⟩ => ⟨rfl, rfl, rfl, rfl⟩
  | ⟨21, _⟩ => ⟨rfl, rfl, rfl, rfl⟩
  | ⟨22, _⟩ => ⟨rfl, rfl, rfl, rfl⟩
  | ⟨_ + 23, h⟩ => absurd h (by omega)
theorem Try.info_row : (Try.prog.info? 48).map (fun i => (i.zero, i.size)) = some (some (.agg #[.int .i64 0, .int .i64 0, .int .i64 0, .int .i64 0]), 4) := by kernel_rfl

set_option maxRecDepth 100000 in
set_option maxHeartbeats 1000000 in
theorem shape_any (op : Int) (w : World) :
    Calls Try.prog 25 #[.int .i64 op] w fun e w' => e = .returned (.tuple #[.int .i64 ((shapeTo op 23).1 : Int), .int .i64 (shapeTo op 23).2.1, .int .i64 (shapeTo op 23).2.2]) ∧ Below w.heap.size w w' := by
  have hq := quad_built
  go_enter Try.func25, Try.ntmps25
  go_wp2_with (with_reducible refine wpList_buildSliceN rfl 49 48 23 _ rfl rowsB (.agg #[.int .i64 0, .int .i64 0, .int .i64 0, .int .i64 0]) 4 (by kernel_rfl) Try.info_row (by decide) (by decide) (by as_aux_lemma => kernel_rfl) ?_)
  clear hq
  go_loopw [2, 3, 4, 32] (fun a b c i wr => ∃ k : Nat, k ≤ 23 ∧ i = .int .i64 (k : Int) ∧ a = .int .i64 ((shapeTo op k).1 : Int) ∧ b = .int .i64 (shapeTo op k).2.1 ∧ c = .int .i64 (shapeTo op k).2.2 ∧ Below (w.heap.size + 1) (w.alloc (.cells rowsB 48)) wr) (fun _ _ _ i _ => 23 - (intOf i).toNat)
  case atStart => exact ⟨0, Nat.zero_le _, rfl, rfl, rfl, rfl, Below.refl _ _⟩
  case round =>
    obtain ⟨k, hk, rfl, rfl, rfl, rfl, hb⟩ := hrel
    by_cases hlt : k < 23
    · have hc : ∀ j v, rowsB[j]? = some v → wr.cell? ⟨w.heap.size, j, none⟩ = some v := fun j v h => (hb.cell (p := ⟨w.heap.size, j, none⟩) (by simp)).trans (by rw [World.cell?_alloc_new]; exact h)
      obtain ⟨c0, c1, c2, c3⟩ := rows_at ⟨k, hlt⟩
      replace c0 := hc _ _ c0
      replace c1 := hc _ _ c1
      replace c2 := hc _ _ c2
      replace c3 := hc _ _ c3
      have hsz : w.heap.size + 1 ≤ wr.heap.size := by have := hb.size; simpa using this
      clear hc
      have hy := shape_yes op k
      have hn := shape_no op k
      obtain ⟨f, n, a, b, hp⟩ : ∃ f n a b, shapeL.getD k (0, 0, 0, 0) = (f, n, a, b) := ⟨_, _, _, _, rfl⟩
      rw [hp] at hy hn
      simp only [hp] at c0 c1 c2 c3
      clear hp
      by_cases hle : f ≤ op
      · have HY := Lib.hid (hy hle)
        clear hy hn
        go_wp2_with fail
        go_quiet (fail)
        go_wp2
        go_roundw
        case rel => exact ⟨k + 1, by omega, by go_num, by rw [HY.out], by rw [HY.out], by rw [HY.out], below_drewN (hb.alloc hsz _) _⟩
        case measure => simp [intOf]; omega
      · have HN := Lib.hid (hn hle)
        clear hy hn
        go_wp2
        go_roundw
        case rel => exact ⟨k + 1, by omega, by go_num, by rw [HN.out], by rw [HN.out], by rw [HN.out], hb.alloc hsz _⟩
        case measure => simp [intOf]; omega
    · obtain rfl : k = 23 := by omega
      go_wp2
      go_ret3
      exact ⟨rfl, ((Below.refl w.heap.size w).alloc (Nat.le_refl _) _).trans (hb.mono (Nat.le_succ _))⟩
end Go.Proofs.Ytmcogjfiocfmnaa
