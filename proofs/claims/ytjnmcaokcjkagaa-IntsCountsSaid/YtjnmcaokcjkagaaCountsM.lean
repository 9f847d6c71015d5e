/-
  What is true of zeros ahead, zeros behind and ones: the mathematics of IntsCounts. Nothing of the program's text stands here.
-/
import Derived.Test.YtjnmcaokcjkagaaPairsM
namespace Go.Proofs.Ytjnmcaokcjkagaa
open Go.RowKit

/-- The ones among the lowest j bits. -/
def popN (v : Nat) : Nat → Nat
  | 0 => 0
  | j + 1 => popN v j + v / 2 ^ j % 2
theorem popTo_N (x : BitVec 64) : ∀ j, popTo x j = popN x.toNat j
  | 0 => rfl
  | j + 1 => by
      show popTo x j + ((x >>> j) &&& 1#64).toNat = popN x.toNat j + x.toNat / 2 ^ j % 2
      rw [popTo_N x j, bit_eq, BitVec.toNat_ushiftRight, Nat.shiftRight_eq_div_pow]
theorem popN_congr (u v : Nat) : ∀ j, (∀ i, i < j → u / 2 ^ i % 2 = v / 2 ^ i % 2) → popN u j = popN v j
  | 0, _ => rfl
  | j + 1, h => by
      show popN u j + u / 2 ^ j % 2 = popN v j + v / 2 ^ j % 2
      rw [popN_congr u v j fun i hi => h i (by omega), h j (by omega)]
theorem popN_split (v a : Nat) : ∀ b, popN v (a + b) = popN v a + popN (v / 2 ^ a) b
  | 0 => rfl
  | b + 1 => by
      show popN v (a + b) + v / 2 ^ (a + b) % 2 = popN v a + (popN (v / 2 ^ a) b + v / 2 ^ a / 2 ^ b % 2)
      rw [popN_split v a b, Nat.pow_add, Nat.div_div_eq_div_mul]; omega
theorem bit_low (m hi s i : Nat) (h : i < s) : (m * 2 ^ s + hi) / 2 ^ i % 2 = hi / 2 ^ i % 2 := by
  have e : m * 2 ^ s + hi = hi + m * 2 ^ (s - 1 - i) * 2 * 2 ^ i := by
    have : 2 ^ s = 2 ^ (s - 1 - i) * 2 * 2 ^ i := by rw [← Nat.pow_succ, ← Nat.pow_add]; congr 1; omega
    rw [this, Nat.mul_assoc, Nat.mul_assoc, Nat.mul_assoc]; omega
  rw [e, Nat.add_mul_div_right _ _ (Nat.two_pow_pos _), Nat.add_mul_mod_self_right]
theorem popN_rot (v n s : Nat) (hs : s ≤ n) (hv : v < 2 ^ n) : popN (rotN v n s) n = popN v n := by
  have e1 : 2 ^ n = 2 ^ (n - s) * 2 ^ s := by rw [← Nat.pow_add]; congr 1; omega
  have hq : v / 2 ^ (n - s) < 2 ^ s := by
    apply Nat.div_lt_of_lt_mul; rw [← e1]; exact hv
  have a := popN_split (rotN v n s) s (n - s)
  have b := popN_split v (n - s) s
  rw [show s + (n - s) = n by omega] at a
  rw [show n - s + s = n by omega] at b
  have c : popN (rotN v n s) s = popN (v / 2 ^ (n - s)) s := popN_congr _ _ _ fun i hi => bit_low _ _ _ _ hi
  have d : rotN v n s / 2 ^ s = v % 2 ^ (n - s) := by
    unfold rotN; rw [Nat.add_comm, Nat.add_mul_div_right _ _ (Nat.two_pow_pos _), Nat.div_eq_of_lt hq, Nat.zero_add]
  have e : popN (v % 2 ^ (n - s)) (n - s) = popN v (n - s) := popN_congr _ _ _ fun i hi => by
    have := bit_low (v / 2 ^ (n - s)) (v % 2 ^ (n - s)) (n - s) i hi
    rw [← this, Nat.mul_comm, Nat.div_add_mod]
  rw [a, b, c, d, e]; omega

theorem bitU (x : BitVec 64) (i : Nat) : U ((x >>> i) &&& 1#64) = ((x.toNat / 2 ^ i % 2 : Nat) : Int) := by
  unfold U; rw [bit_eq, BitVec.toNat_ushiftRight, Nat.shiftRight_eq_div_pow]
theorem ctz_spec (x : BitVec 64) : ∀ f i, i ≤ ctzFrom x i f ∧ (∀ j, i ≤ j → j < ctzFrom x i f → x.toNat / 2 ^ j % 2 = 0) ∧ (ctzFrom x i f < i + f → x.toNat / 2 ^ ctzFrom x i f % 2 = 1)
  | 0, i => ⟨Nat.le_refl _, fun j h1 h2 => by unfold ctzFrom at h2; omega, fun h => by unfold ctzFrom at h; omega⟩
  | f + 1, i => by
      have h := ctz_spec x f (i + 1)
      unfold ctzFrom
      rw [bitU]
      by_cases hb : ((x.toNat / 2 ^ i % 2 : Nat) : Int) = 0
      · rw [if_pos hb]
        refine ⟨by omega, fun j h1 h2 => ?_, fun hlt => h.2.2 (by omega)⟩
        by_cases hj : j = i
        · subst hj; omega
        · exact h.2.1 j (by omega) h2
      · rw [if_neg hb]
        exact ⟨Nat.le_refl _, fun j h1 h2 => by omega, fun _ => by omega⟩
theorem low_zero (v : Nat) : ∀ r, (∀ j, j < r → v / 2 ^ j % 2 = 0) → v % 2 ^ r = 0
  | 0, _ => Nat.mod_one _
  | r + 1, h => by rw [Nat.mod_pow_succ, low_zero v r fun j hj => h j (by omega), h r (by omega), Nat.mul_zero]
theorem ctz_low (x : BitVec 64) (n : Nat) : x.toNat % 2 ^ ctzFrom x 0 n = 0 :=
  low_zero _ _ fun j hj => (ctz_spec x n 0).2.1 j (Nat.zero_le _) hj
theorem ctz_zero (x : BitVec 64) (n : Nat) (h : x.toNat = 0) : ctzFrom x 0 n = n := by
  have a := ctzFrom_le x n 0
  have b := (ctz_spec x n 0).2.2
  rw [h, Nat.zero_div] at b
  omega
theorem ctz_lt (x : BitVec 64) (n : Nat) (hx : x.toNat < 2 ^ n) (h : x.toNat ≠ 0) : ctzFrom x 0 n < n := by
  have a := ctzFrom_le x n 0
  by_cases e : ctzFrom x 0 n = n
  · have := ctz_low x n
    rw [e, Nat.mod_eq_of_lt hx] at this
    exact absurd this h
  · omega
/-- The highest one bit is one. -/
theorem high_one (v : Nat) (h : v ≠ 0) : v / 2 ^ (lenN v - 1) = 1 := by
  have a := lenN_lo h
  have b := lenN_hi v
  have c := lenN_pos h
  have e : 2 ^ lenN v = 2 * 2 ^ (lenN v - 1) := by
    rw [show lenN v = (lenN v - 1) + 1 by omega, Nat.pow_succ]; simp; omega
  apply Nat.div_eq_of_lt_le <;> omega
theorem high_U (x : BitVec 64) (m : Nat) (h : x.toNat ≠ 0) (hm : m = lenN x.toNat - 1) : (U x / 2 ^ m != 1) = false := by
  have := high_one x.toNat h
  subst hm
  have e : U x / 2 ^ (lenN x.toNat - 1) = ((x.toNat / 2 ^ (lenN x.toNat - 1) : Nat) : Int) := by
    unfold U; rw [Int.natCast_ediv, Int.natCast_pow]; rfl
  rw [e, this]; rfl
theorem low_U (x : BitVec 64) (n : Nat) (hx : x.toNat < 2 ^ n) (h : x.toNat ≠ 0) : (Go.bits .and .u64 (U x / 2 ^ ctzFrom x 0 n) 1 != 1) = false := by
  rw [shrU, and1U, bitU, (ctz_spec x n 0).2.2 (by have := ctz_lt x n hx h; omega)]; rfl
theorem gone_U (x : BitVec 64) (n : Nat) (h : n ≤ 64) : (IntKind.u64.wrap (U x * 2 ^ (64 - ctzFrom x 0 n)) / 2 != 0) = false := by
  have a := ctz_low x n
  have b := ctzFrom_le x n 0
  generalize ctzFrom x 0 n = t at a b
  rw [shlU]
  have e : x <<< (64 - t) = 0#64 := by
    apply BitVec.eq_of_toNat_eq
    rw [BitVec.toNat_shiftLeft, Nat.shiftLeft_eq]
    have e2 : 2 ^ 64 = 2 ^ t * 2 ^ (64 - t) := by rw [← Nat.pow_add]; congr 1; omega
    rw [e2, Nat.mul_mod_mul_right, a]; simp
  rw [e]; rfl
end Go.Proofs.Ytjnmcaokcjkagaa
