/-
  IntsTells: whatever the six numbers, the statement's function returns true: the walk.
-/
import Derived.Test.YtjnmcaokcjkagaaSame
namespace Go.Proofs.Ytjnmcaokcjkagaa
open Go.RowKit

theorem and255U (x : BitVec 64) : Go.bits .and .u64 (U x) 255 = U (x &&& 255#64) := andU x 255#64

theorem tells_any (op : Int) (a b : BitVec 64) (i k n : Int) (w : World) :
    Calls Try.prog 4 #[.int .i64 op, .int .u64 (U a), .int .u64 (U b), .int .i64 i, .int .i64 k, .int .i64 n] w (BoolPost true w) := by
  have r1 := lowU
  have r2 := and255U
  have hacc := Below.refl w.heap.size w
  go_enter Try.func4, Try.ntmps4
  go_wp2_with fail
  go_at_call 15
  refine (all_any _).mono ?_
  rintro e w1 ⟨m, g, cap, zs, hm1, hm2, hmz, rfl, hc, hb⟩
  have t0 := Int.lt_tmod_of_pos op (b := (m : Int)) (by omega)
  have t1 := Int.tmod_lt_of_pos op (b := (m : Int)) (by omega)
  have u0 : 0 ≤ op.tmod m % m := Int.emod_nonneg _ (by omega)
  have u1 : op.tmod m % m < m := Int.emod_lt_of_pos _ (by omega)
  have v0 : 0 ≤ (op.tmod m + m) % m := Int.emod_nonneg _ (by omega)
  have v1 : (op.tmod m + m) % m < m := Int.emod_lt_of_pos _ (by omega)
  have hcell := hc (op.tmod m % m).toNat (by omega)
  replace hacc := below_then hacc hb
  clear hb hc
  go_wp2_with (first | (go_at_call 10; refine (same_any _ _ _ _).mono ?_; rintro e w' ⟨rfl, hb⟩; replace hacc := below_then hacc hb; clear hb) | (go_at_call 11; refine (edge_any _ _).mono ?_; rintro e w' ⟨rfl, hb⟩; replace hacc := below_then hacc hb; clear hb) | (go_at_call 8; refine (is_any _ _).mono ?_; rintro e w' ⟨rfl, rfl⟩) | (go_at_call 9; refine (ris_any _ _).mono ?_; rintro e w' ⟨rfl, rfl⟩) | (go_at_call 12; refine (sign_any _ _ _).mono ?_; rintro e w' ⟨rfl, rfl⟩) | (go_at_call 13; refine (rsign_any _ _ _).mono ?_; rintro e w' ⟨rfl, rfl⟩) | (go_at_call 14; refine (known_any _).mono ?_; rintro e w' ⟨rfl, hb⟩; replace hacc := below_then hacc hb; clear hb))
  go_ret
  exact ⟨rfl, hacc⟩
end Go.Proofs.Ytjnmcaokcjkagaa
