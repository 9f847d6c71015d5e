/-
  FloatsSums: whatever the two words, the statement's function returns true: the walk, and what is true of sums, products and quotients.
-/
import Derived.Test.YtejpbhgbafapoaaFOrder
namespace Go.Proofs.Ytejpbhgbafapoaa
open Go.RowKit

theorem rung_and (a : BitVec 64) : Go.bits .and .u64 (U a) 9223372036854775807 = (rung a.toNat : Int) := by
  have h := andU a 9223372036854775807#64
  have e : U (a &&& 9223372036854775807#64) = (rung a.toNat : Int) := by
    unfold U rung
    rw [BitVec.toNat_and]
    have := Nat.and_two_pow_sub_one_eq_mod a.toNat 63
    rw [show 2 ^ 63 - 1 = (9223372036854775807#64).toNat by rfl, show 2 ^ 63 = 9223372036854775808 by rfl] at this
    rw [this]
  rw [← e]; exact h
theorem w_add (a b : BitVec 64) : Wq (bothF 160 b.toNat a.toNat) = Wq (bothF 160 a.toNat b.toNat) := by
  unfold bothF; simp only [if_true]; rw [add_comm]
theorem w_mul (a b : BitVec 64) : Wq (bothF 162 b.toNat a.toNat) = Wq (bothF 162 a.toNat b.toNat) := by
  have e : ∀ x y, bothF 162 x y = Ieee.double.mul x y := fun _ _ => rfl
  rw [e, e, mul_comm]
theorem b_sub (x y : Nat) : bothF 161 x y = Ieee.double.sub x y := rfl
theorem b_mul (x y : Nat) : bothF 162 x y = Ieee.double.mul x y := rfl
theorem b_div (x y : Nat) : bothF 163 x y = Ieee.double.div x y := rfl

theorem d160 (a b : BitVec 64) (w : World) : Calls Try.prog 7 #[.int .i64 160, .int .u64 (U a), .int .u64 (U b)] w (DoPost (Wq (bothF 160 a.toNat b.toNat)) 0 w) := do_two 160 (by decide) a b w
theorem d161 (a b : BitVec 64) (w : World) : Calls Try.prog 7 #[.int .i64 161, .int .u64 (U a), .int .u64 (U b)] w (DoPost (Wq (bothF 161 a.toNat b.toNat)) 0 w) := do_two 161 (by decide) a b w
theorem d162 (a b : BitVec 64) (w : World) : Calls Try.prog 7 #[.int .i64 162, .int .u64 (U a), .int .u64 (U b)] w (DoPost (Wq (bothF 162 a.toNat b.toNat)) 0 w) := do_two 162 (by decide) a b w
theorem d162one (a : BitVec 64) (w : World) : Calls Try.prog 7 #[.int .i64 162, .int .u64 (U a), .int .u64 4607182418800017408] w (DoPost (Wq (bothF 162 a.toNat 4607182418800017408)) 0 w) := do_two 162 (by decide) a 4607182418800017408#64 w
theorem d163 (a b : BitVec 64) (w : World) : Calls Try.prog 7 #[.int .i64 163, .int .u64 (U a), .int .u64 (U b)] w (DoPost (Wq (bothF 163 a.toNat b.toNat)) 0 w) := do_two 163 (by decide) a b w

set_option maxRecDepth 100000 in
theorem sums_any (a b : BitVec 64) (w : World) :
    Calls Try.prog 6 #[.int .u64 (U a), .int .u64 (U b)] w (BoolPost true w) := by
  obtain ⟨x, hx⟩ : ∃ x, Wq (bothF 160 a.toNat b.toNat) = x := ⟨_, rfl⟩
  obtain ⟨y, hy⟩ : ∃ y, Wq (bothF 162 a.toNat b.toNat) = y := ⟨_, rfl⟩
  have hx2 := (w_add a b).trans hx
  have hy2 := (w_mul a b).trans hy
  have l0 : U 0#64 = 0 := rfl
  have l1 : U 4607182418800017408#64 = 4607182418800017408 := rfl
  have l2 : U 9221120237041090560#64 = 9221120237041090560 := rfl
  have hm0 := rung_and a
  have ways : (isNaN a.toNat = true ∧ Wq (bothF 161 a.toNat a.toNat) = 9221120237041090560#64 ∧ Wq (bothF 163 a.toNat a.toNat) = 9221120237041090560#64 ∧ Wq (bothF 162 a.toNat 4607182418800017408) = 9221120237041090560#64 ∧ True) ∨
      (isNaN a.toNat = false ∧ Wq (bothF 161 a.toNat a.toNat) = 9221120237041090560#64 ∧ Wq (bothF 163 a.toNat a.toNat) = 9221120237041090560#64 ∧ Wq (bothF 162 a.toNat 4607182418800017408) = a ∧ (rung a.toNat : Int) = 9218868437227405312) ∨
      (isNaN a.toNat = false ∧ Wq (bothF 161 a.toNat a.toNat) = 0#64 ∧ Wq (bothF 163 a.toNat a.toNat) = 9221120237041090560#64 ∧ Wq (bothF 162 a.toNat 4607182418800017408) = a ∧ (rung a.toNat : Int) = 0) ∨
      (isNaN a.toNat = false ∧ Wq (bothF 161 a.toNat a.toNat) = 0#64 ∧ Wq (bothF 163 a.toNat a.toNat) = 4607182418800017408#64 ∧ Wq (bothF 162 a.toNat 4607182418800017408) = a ∧ ((rung a.toNat : Int) == 9218868437227405312) = false ∧ ((rung a.toNat : Int) == 0) = false ∧ ((rung a.toNat : Int) != 0) = true) := by
    simp only [b_sub, b_div, b_mul]
    cases ha : isNaN a.toNat with
    | true =>
      have h := (isNaN_iff _).mp ha
      rw [sub_self_nan _ h, div_self_nan _ h, mul_one_nan _ h]
      exact .inl ⟨rfl, rfl, rfl, rfl, trivial⟩
    | false =>
      have h := (isNaN_not _).mp ha
      rw [mul_one_num _ a.isLt h, wq_self a ha]
      by_cases h1 : rung a.toNat = 9218868437227405312
      · rw [sub_self_inf _ h1, div_self_inf _ h1]
        exact .inr (.inl ⟨rfl, rfl, rfl, rfl, by omega⟩)
      · rw [sub_self_fin _ (by omega)]
        by_cases h2 : rung a.toNat = 0
        · rw [div_self_zero _ h2]
          exact .inr (.inr (.inl ⟨rfl, rfl, rfl, rfl, by omega⟩))
        · rw [div_self_fin _ (by omega) h2]
          refine .inr (.inr (.inr ⟨rfl, rfl, rfl, rfl, ?_, ?_, ?_⟩))
          · exact beq_false_of_ne (by omega)
          · exact beq_false_of_ne (by omega)
          · exact bne_iff_ne.mpr (by omega)
  clear hx hy
  have hx3 := hx2
  have hy3 := hy2
  rw [w_add] at hx3
  rw [w_mul] at hy3
  have hacc := Below.refl w.heap.size w
  rcases ways with ⟨na, f1, f2, f3, f4⟩ | ⟨na, f1, f2, f3, f4⟩ | ⟨na, f1, f2, f3, f4⟩ | ⟨na, f1, f2, f3, f4, f5, f6⟩ <;>
  · go_enter Try.func6, Try.ntmps6
    go_wp2_with (first
      | (go_at_call 7; (first | (with_reducible refine (d160 _ _ _).mono ?_) | (with_reducible refine (d161 _ _ _).mono ?_) | (with_reducible refine (d162one _ _).mono ?_) | (with_reducible refine (d162 _ _ _).mono ?_) | (with_reducible refine (d163 _ _ _).mono ?_)); rintro e w' ⟨rfl, k, rfl⟩)
      | (go_at_call 8; refine (nan_any _ _).mono ?_; rintro e w' ⟨rfl, rfl⟩)
      | (go_at_call 9; refine (known_any _).mono ?_; rintro e w' ⟨rfl, hb⟩; replace hacc := below_then (below_drewN hacc _) hb))
    all_goals
      go_ret
      exact ⟨rfl, hacc⟩
end Go.Proofs.Ytejpbhgbafapoaa
