/-
  Contracts of the document's Const, Opens.
-/
import Derived.Test.YthofjcbdmdblpaaOi
namespace Go.Proofs.Ythofjcbdmdblpaa
open Go.RowKit
theorem ropens_any (op : Int) (w : World) :
    Calls Try.prog 25 #[.int .i64 op] w fun e w' => e = .returned (.bool (opensB op)) ∧ w = w' := by
  by_cases c : op < 2
  · rw [show opensB op = false from decide_eq_false (by omega)]
    go_enter Try.func25, Try.ntmps25
    go_wp2
    go_ret
    exact ⟨rfl, rfl⟩
  · by_cases d : op ≤ 4
    · rw [show opensB op = true from decide_eq_true (by omega)]
      go_enter Try.func25, Try.ntmps25
      go_wp2
      go_ret
      exact ⟨rfl, rfl⟩
    · rw [show opensB op = false from decide_eq_false (by omega)]
      go_enter Try.func25, Try.ntmps25
      go_wp2
      go_ret
      exact ⟨rfl, rfl⟩
end Go.Proofs.Ythofjcbdmdblpaa
