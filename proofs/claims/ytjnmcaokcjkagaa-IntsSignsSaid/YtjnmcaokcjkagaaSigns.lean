/-
  IntsSigns: whatever the two numbers, the statement's function returns true: the walk, and what is true of signs.
-/
import Derived.Test.YtjnmcaokcjkagaaSame
namespace Go.Proofs.Ytjnmcaokcjkagaa
open Go.RowKit

/-! ### signs -/
theorem sgn_range (x : BitVec 64) (n : Int) (h0 : 1 ≤ n) (h1 : n ≤ 64) : -(2 ^ (n.toNat - 1)) ≤ S (signSpec x n) ∧ S (signSpec x n) < 2 ^ (n.toNat - 1) := by
  have hb := sgn_back x n h0 h1
  have hS := S_bounds (x <<< (64 - n.toNat))
  have e : (9223372036854775808 : Int) = 2 ^ (n.toNat - 1) * 2 ^ (64 - n.toNat) := by
    rw [← Int.pow_add, show n.toNat - 1 + (64 - n.toNat) = 63 by omega]; rfl
  have hp : (0 : Int) < 2 ^ (64 - n.toNat) := Int.pow_pos (by decide)
  rw [← hb] at hS
  constructor
  · have h : -(2 ^ (n.toNat - 1)) * 2 ^ (64 - n.toNat) ≤ S (signSpec x n) * 2 ^ (64 - n.toNat) := by
      rw [Int.neg_mul, ← e]; exact hS.1
    exact Int.le_of_mul_le_mul_right h hp
  · have h : S (signSpec x n) * 2 ^ (64 - n.toNat) < 2 ^ (n.toNat - 1) * 2 ^ (64 - n.toNat) := by
      rw [← e]; omega
    exact Int.lt_of_mul_lt_mul_right h (Int.le_of_lt hp)
theorem sgn_fix (x : BitVec 64) (n : Int) (h0 : 1 ≤ n) (h1 : n ≤ 64) (hl : -(2 ^ (n.toNat - 1)) ≤ S x) (hh : S x < 2 ^ (n.toNat - 1)) : S (signSpec x n) = S x := by
  have hb := sgn_back x n h0 h1
  have e : (9223372036854775808 : Int) = 2 ^ (n.toNat - 1) * 2 ^ (64 - n.toNat) := by
    rw [← Int.pow_add, show n.toNat - 1 + (64 - n.toNat) = 63 by omega]; rfl
  have hp : (0 : Int) < 2 ^ (64 - n.toNat) := Int.pow_pos (by decide)
  have h2 : -(2 ^ (n.toNat - 1)) * 2 ^ (64 - n.toNat) ≤ S x * 2 ^ (64 - n.toNat) := Int.mul_le_mul_of_nonneg_right hl (Int.le_of_lt hp)
  have h3 : S x * 2 ^ (64 - n.toNat) < 2 ^ (n.toNat - 1) * 2 ^ (64 - n.toNat) := Int.mul_lt_mul_of_pos_right hh hp
  rw [Int.neg_mul, ← e] at h2
  rw [← e] at h3
  have h4 : S (x <<< (64 - n.toNat)) = S x * 2 ^ (64 - n.toNat) := by
    rw [← toS, ← shlU]
    have h5 : wrap64 (IntKind.u64.wrap (U x * 2 ^ (64 - n.toNat))) = wrap64 (U x * 2 ^ (64 - n.toNat)) := by
      rw [IntKind.wrap_u64]; unfold wrap64; omega
    have h6 : wrap64 (U x * 2 ^ (64 - n.toNat)) = wrap64 (S x * 2 ^ (64 - n.toNat)) := by
      have h7 : U x = S x ∨ U x = S x + 18446744073709551616 := by
        unfold U S; rw [BitVec.toInt_eq_toNat_cond]; split <;> omega
      rcases h7 with h7 | h7
      · rw [h7]
      · rw [h7, Int.add_mul]
        generalize (2 : Int) ^ (64 - n.toNat) = p
        unfold wrap64
        rw [show S x * p + 18446744073709551616 * p + 9223372036854775808 = (S x * p + 9223372036854775808) + 18446744073709551616 * p by omega, Int.add_mul_emod_self_left]
    rw [h5, h6]; unfold wrap64; omega
  rw [h4] at hb
  exact Int.eq_of_mul_eq_mul_right (Int.ne_of_gt hp) hb
theorem sgn_twice (x : BitVec 64) (n : Int) (h0 : 1 ≤ n) (h1 : n ≤ 64) : signSpec (signSpec x n) n = signSpec x n := by
  have h := sgn_range x n h0 h1
  exact S_inj.mp (sgn_fix _ n h0 h1 h.1 h.2)

theorem do_172 (a : BitVec 64) (w : World) : Calls Try.prog 16 #[.int .i64 172, .int .u64 (U a), .int .u64 0] w fun e w' => e = .returned (.tuple #[.int .u64 (U (signSpec a 32)), .int .i64 0]) ∧ ∃ k, w' = w.drewN k := do_any 172 a 0#64 w
theorem do_196 (a : BitVec 64) (w : World) : Calls Try.prog 16 #[.int .i64 196, .int .u64 (U a), .int .u64 0] w fun e w' => e = .returned (.tuple #[.int .u64 (U (signSpec a 32)), .int .i64 0]) ∧ ∃ k, w' = w.drewN k := do_any 196 a 0#64 w
theorem do_173 (a : BitVec 64) (w : World) : Calls Try.prog 16 #[.int .i64 173, .int .u64 (U a), .int .u64 0] w fun e w' => e = .returned (.tuple #[.int .u64 (U (cutB a 32)), .int .i64 0]) ∧ ∃ k, w' = w.drewN k := do_any 173 a 0#64 w
theorem do_167 (a : BitVec 64) (w : World) : Calls Try.prog 16 #[.int .i64 167, .int .u64 (U a), .int .u64 0] w fun e w' => e = .returned (.tuple #[.int .u64 (U (cutB a 32)), .int .i64 0]) ∧ ∃ k, w' = w.drewN k := do_any 167 a 0#64 w

theorem pow_small (m : Nat) (h : m ≤ 62) : ∃ P : Int, 2 ^ m = P ∧ 0 < P ∧ P ≤ 4611686018427387904 := by
  refine ⟨2 ^ m, rfl, Int.pow_pos (by decide), ?_⟩
  have h : 2 ^ m ≤ 2 ^ 62 := Nat.pow_le_pow_right (by decide) h
  have e : (2 : Int) ^ m = ((2 ^ m : Nat) : Int) := by rw [Int.natCast_pow]; rfl
  rw [e]; omega
theorem bounds_bits (s P : Int) (h0 : 0 < P) (h1 : P ≤ 4611686018427387904) (h2 : -P ≤ s) (h3 : s < P) :
    decide (wrap64 P ≤ s) = false ∧ decide (s < wrap64 (-wrap64 P)) = false := by
  have e1 : wrap64 P = P := by unfold wrap64; omega
  have e2 : wrap64 (-P) = -P := by unfold wrap64; omega
  rw [e1, e2]
  exact ⟨decide_eq_false (by omega), decide_eq_false (by omega)⟩
theorem sgn_bits (a : BitVec 64) (q : Int) (h0 : 0 ≤ q) (h1 : q < 63) :
    decide (wrap64 (2 ^ ((1 + q).toNat - 1)) ≤ S (signSpec a (1 + q))) = false ∧ decide (S (signSpec a (1 + q)) < wrap64 (-wrap64 (2 ^ ((1 + q).toNat - 1)))) = false := by
  have hr := sgn_range a (1 + q) (by omega) (by omega)
  obtain ⟨P, hP, p0, p1⟩ := pow_small ((1 + q).toNat - 1) (by omega)
  rw [hP] at hr ⊢
  exact bounds_bits _ P p0 p1 hr.1 hr.2

set_option maxRecDepth 100000 in
theorem signs_any (a : BitVec 64) (n : Int) (w : World) :
    Calls Try.prog 6 #[.int .u64 (U a), .int .i64 n] w (BoolPost true w) := by
  have t0 := Int.lt_tmod_of_pos n (b := 64) (by decide)
  have t1 := Int.tmod_lt_of_pos n (b := 64) (by decide)
  go_enter Try.func6, Try.ntmps6
  go_wp2_with fail
  go_at_call 12
  refine (sign_any _ _ _).mono ?_
  rintro e w' ⟨rfl, rfl⟩
  obtain ⟨q, hq⟩ : ∃ q, n.tmod 64 % 64 = q := ⟨_, rfl⟩
  have q0 : 0 ≤ q := by omega
  have q1 : q ≤ 63 := by omega
  rw [hq]
  clear hq t0 t1
  have HD := Lib.hid (sgn_bits a q q0)
  have hs := sgn_twice a (1 + q) (by omega) (by omega)
  have r1 := toU (signSpec a (1 + q))
  have r2 := toS (signSpec a 32)
  have r3 := lowU a
  have hacc := Below.refl w.heap.size w
  by_cases hlt : q < 63
  · obtain ⟨d1, d2⟩ := HD.out hlt
    have e1 : decide (1 + q < 64) = true := by simp; omega
    clear HD
    go_wp2_with (first | (go_at_call 12; refine (sign_any _ _ _).mono ?_; rintro e w' ⟨rfl, rfl⟩) | (go_at_call 16; (first | (with_reducible refine (do_172 _ _).mono ?_) | (with_reducible refine (do_196 _ _).mono ?_) | (with_reducible refine (do_173 _ _).mono ?_) | (with_reducible refine (do_167 _ _).mono ?_)); rintro e w' ⟨rfl, k, rfl⟩) | (go_at_call 14; refine (known_any _).mono ?_; rintro e w' ⟨rfl, hb⟩; replace hacc := below_then (below_drewN hacc _) hb))
    go_ret
    exact ⟨rfl, hacc⟩
  · have e1 : decide (1 + q < 64) = false := by simp; omega
    clear HD
    go_wp2_with (first | (go_at_call 12; refine (sign_any _ _ _).mono ?_; rintro e w' ⟨rfl, rfl⟩) | (go_at_call 16; (first | (with_reducible refine (do_172 _ _).mono ?_) | (with_reducible refine (do_196 _ _).mono ?_) | (with_reducible refine (do_173 _ _).mono ?_) | (with_reducible refine (do_167 _ _).mono ?_)); rintro e w' ⟨rfl, k, rfl⟩) | (go_at_call 14; refine (known_any _).mono ?_; rintro e w' ⟨rfl, hb⟩; replace hacc := below_then (below_drewN hacc _) hb))
    go_ret
    exact ⟨rfl, hacc⟩
end Go.Proofs.Ytjnmcaokcjkagaa
