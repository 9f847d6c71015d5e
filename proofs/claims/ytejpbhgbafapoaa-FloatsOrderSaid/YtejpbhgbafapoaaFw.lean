/-
  Contracts of the small functions that floats is made of: what each gives back, for any words.
-/
import Derived.Test.YtejpbhgbafapoaaProg
import Derived.Test.YtejpbhgbafapoaaMath
import Derived.Test.YtejpbhgbafapoaaFloat
import Derived.WalkKit
import Derived.WalkLawsBesides
import Derived.Laws.Externs
import Derived.Lib.Hide
namespace Go.Proofs.Ytejpbhgbafapoaa
open Go.RowKit

/-! ### what Go has no text for -/
theorem frombits_run (x : BitVec 64) (w : World) : (callFunc 10 #[.int .u64 (U x)]).run Try.prog w = .ok (.value (.float .f64 x.toNat)) w := by
  rw [run_callFunc_extern Try.func10 (by kernel_rfl) (by kernel_rfl) (by kernel_rfl) (e := Extern.MathFloatBits.float64frombits) (by kernel_rfl)]
  rfl
theorem bits_run (n : Nat) (w : World) : (callFunc 21 #[.float .f64 n]).run Try.prog w = .ok (.value (.int .u64 (n : Int))) w := by
  rw [run_callFunc_extern Try.func21 (by kernel_rfl) (by kernel_rfl) (by kernel_rfl) (e := Extern.MathFloatBits.float64bits) (by kernel_rfl)]
  rfl

theorem isnan_any (n : Nat) (w : World) :
    Calls Try.prog 19 #[.float .f64 n] w fun e w' => e = .returned (.bool (isNaN n)) ∧ w = w' := by
  have h := isNaN_eq n
  go_enter Try.func19, Try.ntmps19
  go_wp2
  go_ret
  exact ⟨by rw [← h]; rfl, rfl⟩

theorem nan_any (x : BitVec 64) (w : World) :
    Calls Try.prog 8 #[.int .u64 (U x)] w fun e w' => e = .returned (.bool (isNaN x.toNat)) ∧ w = w' := by
  have h := frombits_run x
  go_enter Try.func8, Try.ntmps8
  go_wp2_with (go_at_call 19; refine (isnan_any _ _).mono ?_; rintro e w' ⟨rfl, rfl⟩)
  go_ret
  exact ⟨rfl, rfl⟩
end Go.Proofs.Ytejpbhgbafapoaa
