/-
  Contracts of what the statements about floats share: 'known' is true.
-/
import Derived.Test.YtejpbhgbafapoaaFd
import Derived.Below
namespace Go.Proofs.Ytejpbhgbafapoaa
open Go.RowKit

/-- A bool comes back; the world has at most new blocks. -/
def BoolPost (b : Bool) (w : World) (e : Ending) (w' : World) : Prop := e = .returned (.bool b) ∧ Below w.heap.size w w'
theorem below_then {a b c : World} (h : Below a.heap.size a b) (k : Below b.heap.size b c) : Below a.heap.size a c := h.trans (k.mono h.size)

theorem is_yes (w : World) : Calls Try.prog 20 #[.int .i64 97] w fun e w' => e = .returned (.bool true) ∧ w = w' := by
  go_enter Try.func20, Try.ntmps20
  go_wp2
  go_ret
  exact ⟨rfl, rfl⟩
theorem is_no (w : World) : Calls Try.prog 20 #[.int .i64 69] w fun e w' => e = .returned (.bool false) ∧ w = w' := by
  go_enter Try.func20, Try.ntmps20
  go_wp2
  go_ret
  exact ⟨rfl, rfl⟩
theorem k_div (w : World) : Calls Try.prog 7 #[.int .i64 163, .int .u64 4607182418800017408, .int .u64 0] w fun e w' => e = .returned (.tuple #[.int .u64 9218868437227405312, .int .i64 0]) ∧ ∃ k, w' = w.drewN k := by
  have h := do_two 163 (by decide) 4607182418800017408#64 0#64 w
  rw [show Wq (bothF 163 (4607182418800017408#64).toNat (0#64).toNat) = 9218868437227405312#64 by kernel_rfl] at h
  exact h
theorem k_min (w : World) : Calls Try.prog 7 #[.int .i64 164, .int .u64 0, .int .u64 9223372036854775808] w fun e w' => e = .returned (.tuple #[.int .u64 9223372036854775808, .int .i64 0]) ∧ ∃ k, w' = w.drewN k := by
  have h := do_two 164 (by decide) 0#64 9223372036854775808#64 w
  rw [show Wq (bothF 164 (0#64).toNat (9223372036854775808#64).toNat) = 9223372036854775808#64 by kernel_rfl] at h
  exact h
theorem k_bad (w : World) : Calls Try.prog 7 #[.int .i64 170, .int .u64 9221120237041090560, .int .u64 0] w fun e w' => e = .returned (.tuple #[.int .u64 0, .int .i64 4]) ∧ ∃ k, w' = w.drewN k := by
  have h := do_170 9221120237041090560#64 0#64 w
  obtain ⟨h1, h2⟩ := t_nan 0 (9221120237041090560#64).toNat (by kernel_rfl)
  rw [h1, h2] at h
  exact h
theorem k_sub (w : World) : Calls Try.prog 7 #[.int .i64 161, .int .u64 9218868437227405312, .int .u64 9218868437227405312] w fun e w' => e = .returned (.tuple #[.int .u64 9221120237041090560, .int .i64 0]) ∧ ∃ k, w' = w.drewN k := by
  have h := do_two 161 (by decide) 9218868437227405312#64 9218868437227405312#64 w
  rw [show Wq (bothF 161 (9218868437227405312#64).toNat (9218868437227405312#64).toNat) = 9221120237041090560#64 by kernel_rfl] at h
  exact h
theorem k_nan (w : World) : Calls Try.prog 8 #[.int .u64 9221120237041090560] w fun e w' => e = .returned (.bool true) ∧ w = w' := by
  have h := nan_any 9221120237041090560#64 w
  rw [show isNaN (9221120237041090560#64).toNat = true by kernel_rfl] at h
  exact h
theorem k_num (w : World) : Calls Try.prog 8 #[.int .u64 9218868437227405312] w fun e w' => e = .returned (.bool false) ∧ w = w' := by
  have h := nan_any 9218868437227405312#64 w
  rw [show isNaN (9218868437227405312#64).toNat = false by kernel_rfl] at h
  exact h
theorem known_any (w : World) : Calls Try.prog 9 #[] w (BoolPost true w) := by
  go_enter Try.func9, Try.ntmps9
  go_wp2_with (first
    | (go_at_call 7; (first | (with_reducible refine (k_div _).mono ?_) | (with_reducible refine (k_min _).mono ?_) | (with_reducible refine (k_bad _).mono ?_) | (with_reducible refine (k_sub _).mono ?_)); rintro e w' ⟨rfl, k, rfl⟩)
    | (go_at_call 8; (first | (with_reducible refine (k_nan _).mono ?_) | (with_reducible refine (k_num _).mono ?_)); rintro e w' ⟨rfl, rfl⟩)
    | (go_at_call 20; (first | (with_reducible refine (is_yes _).mono ?_) | (with_reducible refine (is_no _).mono ?_)); rintro e w' ⟨rfl, rfl⟩))
  go_ret
  exact ⟨rfl, below_drewN (Below.refl _ _) _⟩
end Go.Proofs.Ytejpbhgbafapoaa
