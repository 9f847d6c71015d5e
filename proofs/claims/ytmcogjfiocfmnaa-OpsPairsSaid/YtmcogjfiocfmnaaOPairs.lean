/-
  OpsPairs: whatever the number, the statement's function returns true.
-/
import Derived.Test.YtmcogjfiocfmnaaOP0
import Derived.Test.YtmcogjfiocfmnaaOP1
import Derived.Test.YtmcogjfiocfmnaaOP2
namespace Go.Proofs.Ytmcogjfiocfmnaa
open Go.RowKit

theorem pairs_any (k : Int) (w : World) : Calls Try.prog 5 #[.int .i64 k] w (BoolPost true w) := by
  have hr := within_bounds k
  obtain ⟨op, hop⟩ : ∃ op, allL.getD (withinN k) 0 = op := ⟨_, rfl⟩
  have hk : knownB op = true := by rw [← hop]; exact all_known ⟨withinN k, by omega⟩
  have hkinds : kinds op ≤ 1 := by rw [← hop]; exact all_kinds ⟨withinN k, by omega⟩
  have hxy := acc_way op
  obtain ⟨x, y, z, d, ha⟩ : ∃ x y z d, accB op = (x, y, z, d) := ⟨_, _, _, _, rfl⟩
  rw [ha] at hxy
  cases hn : numB op with
  | false => exact pairs_0 k op hop hn x y z d ha hxy hk hkinds w
  | true =>
    have h1 := sig_count op hn
    have h2 := sig_types op hn
    obtain ⟨m, a, b, hs⟩ : ∃ m a b, sigB op = (m, a, b) := ⟨_, _, _, rfl⟩
    rw [hs] at h1 h2
    have h3 : m = 1 ∨ m = 2 := h1
    rcases h3 with rfl | rfl
    · exact pairs_1 k op a b hop hn hs h2.1 h2.2 x y z d ha hxy hk hkinds w
    · exact pairs_2 k op a b hop hn hs h2.1 h2.2 x y z d ha hxy hk hkinds w
end Go.Proofs.Ytmcogjfiocfmnaa
