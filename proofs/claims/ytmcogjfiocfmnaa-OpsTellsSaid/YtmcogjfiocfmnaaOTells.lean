/-
  OpsTells: whatever the number, the statement's function returns true: the walk.
-/
import Derived.Test.YtmcogjfiocfmnaaOsm
import Derived.Test.YtmcogjfiocfmnaaOkk
namespace Go.Proofs.Ytmcogjfiocfmnaa
open Go.RowKit

theorem tells_any (op : Int) (w : World) : Calls Try.prog 4 #[.int .i64 op] w (BoolPost true w) := by
  have hacc := Below.refl w.heap.size w
  go_enter Try.func4, Try.ntmps4
  go_wp2_with (first
    | (go_at_call 7; refine (same_any _ _).mono ?_; rintro e w' ⟨rfl, hb⟩; replace hacc := below_then hacc hb; clear hb)
    | (go_at_call 11; refine (all_known_any _).mono ?_; rintro e w' ⟨rfl, hb⟩; replace hacc := below_then hacc hb; clear hb))
  go_ret
  exact ⟨rfl, hacc⟩
end Go.Proofs.Ytmcogjfiocfmnaa
