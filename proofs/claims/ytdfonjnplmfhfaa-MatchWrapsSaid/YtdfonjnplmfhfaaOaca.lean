/-
  Contract of ops.Access: what it gives back, for any number.
-/
import Derived.Test.YtdfonjnplmfhfaaOacc
import Derived.Great.BuildSlice
namespace Go.Proofs.Ytdfonjnplmfhfaa
open Go.RowKit

set_option maxRecDepth 100000 in
set_option maxHeartbeats 1000000 in
theorem raccess_any (op : Int) (w : World) :
    Calls Try.prog 35 #[.int .i64 op] w fun e w' => e = .returned (.tuple #[.int .i64 (accB op).1, .int .i64 (accB op).2.1, .bool (accB op).2.2.1]) ∧ w = w' := by
  by_cases h : 40 ≤ op ∧ op ≤ 62
  · have c : op = 40 ∨ op = 41 ∨ op = 42 ∨ op = 43 ∨ op = 44 ∨ op = 45 ∨ op = 46 ∨ op = 47 ∨ op = 48 ∨ op = 49 ∨ op = 50 ∨ op = 51 ∨ op = 52 ∨ op = 53 ∨ op = 54 ∨ op = 55 ∨ op = 56 ∨ op = 57 ∨ op = 58 ∨ op = 59 ∨ op = 60 ∨ op = 61 ∨ op = 62 := by omega
    clear h
    rcases c with rfl | rfl | rfl | rfl | rfl | rfl | rfl | rfl | rfl | rfl | rfl | rfl | rfl | rfl | rfl | rfl | rfl | rfl | rfl | rfl | rfl | rfl | rfl
    all_goals
      go_enter Try.func35, Try.ntmps35
      go_wp2
      go_ret3
      exact ⟨rfl, rfl⟩
  · have e : accB op = (0, 0, false, false) := by unfold accB; rw [if_neg h]
    rw [e]
    have h' : op < 40 ∨ 62 < op := by omega
    clear h e
    rcases h' with h | h
    all_goals
      go_enter Try.func35, Try.ntmps35
      go_wp2
      go_ret3
      exact ⟨rfl, rfl⟩
end Go.Proofs.Ytdfonjnplmfhfaa
