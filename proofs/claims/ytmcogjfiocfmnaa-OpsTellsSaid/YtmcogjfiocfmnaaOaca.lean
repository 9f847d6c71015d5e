/-
  Contract of ops.Access: what it gives back, for any number.
-/
import Derived.Test.YtmcogjfiocfmnaaOacc
import Derived.Great.BuildSlice
namespace Go.Proofs.Ytmcogjfiocfmnaa
open Go.RowKit

set_option maxRecDepth 100000 in
set_option maxHeartbeats 1000000 in
theorem access_in (op b k : Int) (s : Bool) (h : 40 ≤ op) (g : op ≤ 62) (w : World)
    (hi : ∀ w, (Instr.index 46 (.agg tableB) (.int .i64 op)).run Try.prog w = .ok (.agg #[.int .i64 b, .int .i64 k, .bool s]) w) :
    Calls Try.prog 14 #[.int .i64 op] w (AccPost (b, k, s, decide (0 < b)) w) := by
  have ht := triple_built
  go_enter Try.func14, Try.ntmps14
  go_wp2_with (with_reducible refine wpList_buildTo rfl 46 _ rfl (some 34) rfl tableB (by as_aux_lemma => kernel_rfl) ?_)
  go_quiet (fail)
  go_wp2
  refine bodyPost_ret (v := .tuple #[.int .i64 b, .int .i64 k, .bool s, .bool (decide (0 < b))]) (by simp [results, Try.results14, go_sem]) rfl ⟨rfl, ?_⟩
  exact below_drewN ((Below.refl _ _).alloc (Nat.le_refl _) _) _

theorem access_any (op : Int) (w : World) : Calls Try.prog 14 #[.int .i64 op] w (AccPost (accB op) w) := by
  by_cases h : 40 ≤ op ∧ op ≤ 62
  · have e : accB op = accL.getD (op - 40).toNat (0, 0, false, false) := by unfold accB; rw [if_pos h]
    have hp := acc_pos op
    have ht := fun w => table_at w ⟨(op - 40).toNat, by omega⟩
    rw [e] at hp ⊢
    simp only [show (40 : Int) + ((op - 40).toNat : Int) = op by omega] at ht
    generalize accL.getD (op - 40).toNat (0, 0, false, false) = p at hp ht
    obtain ⟨b, k, s, d⟩ := p
    have hp' : d = decide (0 < b) := hp
    clear hp
    subst hp'
    exact access_in op b k s h.1 h.2 w ht
  · have e : accB op = (0, 0, false, false) := by unfold accB; rw [if_neg h]
    rw [e]
    exact access_out op (by omega) w

theorem raccess_any (op : Int) (w : World) :
    Calls Try.prog 20 #[.int .i64 op] w fun e w' => e = .returned (.tuple #[.int .i64 (accB op).1, .int .i64 (accB op).2.1, .bool (accB op).2.2.1]) ∧ w = w' := by
  by_cases h : 40 ≤ op ∧ op ≤ 62
  · have c : op = 40 ∨ op = 41 ∨ op = 42 ∨ op = 43 ∨ op = 44 ∨ op = 45 ∨ op = 46 ∨ op = 47 ∨ op = 48 ∨ op = 49 ∨ op = 50 ∨ op = 51 ∨ op = 52 ∨ op = 53 ∨ op = 54 ∨ op = 55 ∨ op = 56 ∨ op = 57 ∨ op = 58 ∨ op = 59 ∨ op = 60 ∨ op = 61 ∨ op = 62 := by omega
    clear h
    rcases c with rfl | rfl | rfl | rfl | rfl | rfl | rfl | rfl | rfl | rfl | rfl | rfl | rfl | rfl | rfl | rfl | rfl | rfl | rfl | rfl | rfl | rfl | rfl
    all_goals
      go_enter Try.func20, Try.ntmps20
      go_wp2
      go_ret3
      exact ⟨rfl, rfl⟩
  · have e : accB op = (0, 0, false, false) := by unfold accB; rw [if_neg h]
    rw [e]
    have h' : op < 40 ∨ 62 < op := by omega
    clear h e
    rcases h' with h | h
    all_goals
      go_enter Try.func20, Try.ntmps20
      go_wp2
      go_ret3
      exact ⟨rfl, rfl⟩
end Go.Proofs.Ytmcogjfiocfmnaa
