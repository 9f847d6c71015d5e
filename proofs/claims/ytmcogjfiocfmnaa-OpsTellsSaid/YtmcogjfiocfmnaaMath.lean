/-
  Plain mathematics on 64-bit words for the proofs about package ints: words as the integers that the walk shows. Nothing of the program stands here.
-/
import Derived.WalkKit
namespace Go.Proofs.Ytmcogjfiocfmnaa
open Go.RowKit

/-- A word as an unsigned number. -/
def U (x : BitVec 64) : Int := (x.toNat : Int)
/-- A word as a signed number. -/
def S (x : BitVec 64) : Int := x.toInt

theorem U_nonneg (x : BitVec 64) : 0 ≤ U x := Int.natCast_nonneg _
theorem U_lt (x : BitVec 64) : U x < 18446744073709551616 := by unfold U; have := x.isLt; omega
theorem U_inj {x y : BitVec 64} : U x = U y ↔ x = y := by
  unfold U; constructor
  · intro h; apply BitVec.eq_of_toNat_eq; omega
  · intro h; rw [h]
theorem S_inj {x y : BitVec 64} : S x = S y ↔ x = y := by
  unfold S; exact BitVec.toInt_inj
theorem S_bounds (x : BitVec 64) : -9223372036854775808 ≤ S x ∧ S x ≤ 9223372036854775807 := by
  unfold S; rw [BitVec.toInt_eq_toNat_cond]; have := x.isLt; split <;> omega

theorem shlU (x : BitVec 64) (k : Nat) : IntKind.u64.wrap (U x * 2 ^ k) = U (x <<< k) := by
  unfold U; rw [IntKind.wrap_u64, BitVec.toNat_shiftLeft, Nat.shiftLeft_eq, Int.natCast_emod, Int.natCast_mul, Int.natCast_pow]; rfl
theorem shrU (x : BitVec 64) (k : Nat) : U x / 2 ^ k = U (x >>> k) := by
  unfold U; rw [BitVec.toNat_ushiftRight, Nat.shiftRight_eq_div_pow]; push_cast; rfl
theorem toS (x : BitVec 64) : wrap64 (U x) = S x := by
  unfold U S wrap64; rw [BitVec.toInt_eq_toNat_cond]; have := x.isLt; split <;> omega
theorem toU (x : BitVec 64) : IntKind.u64.wrap (S x) = U x := by
  unfold U S; rw [IntKind.wrap_u64, BitVec.toInt_eq_toNat_cond]; have := x.isLt; split <;> omega
theorem sarS (x : BitVec 64) (k : Nat) : S x / 2 ^ k = S (x.sshiftRight k) := by
  unfold S; rw [BitVec.toInt_sshiftRight, Int.shiftRight_eq_div_pow]; push_cast; rfl
theorem addU (x y : BitVec 64) : IntKind.u64.wrap (U x + U y) = U (x + y) := by
  unfold U; rw [IntKind.wrap_u64, BitVec.toNat_add, Int.natCast_emod, Int.natCast_add]; rfl
theorem subU (x y : BitVec 64) : IntKind.u64.wrap (U x - U y) = U (x - y) := by
  unfold U; rw [IntKind.wrap_u64, BitVec.toNat_sub]; have := x.isLt; have := y.isLt; omega
theorem mulU (x y : BitVec 64) : IntKind.u64.wrap (U x * U y) = U (x * y) := by
  unfold U; rw [IntKind.wrap_u64, BitVec.toNat_mul, Int.natCast_emod, Int.natCast_mul]; rfl
theorem andU (x y : BitVec 64) : Go.bits .and .u64 (U x) (U y) = U (x &&& y) := by
  unfold U; rw [bits_and_u64_nat _ _ x.isLt y.isLt, BitVec.toNat_and]
theorem orU (x y : BitVec 64) : Go.bits .or .u64 (U x) (U y) = U (x ||| y) := by
  unfold U; rw [bits_or_u64_nat _ _ x.isLt y.isLt, BitVec.toNat_or]
theorem xorU (x y : BitVec 64) : Go.bits .xor .u64 (U x) (U y) = U (x ^^^ y) := by
  unfold U; rw [bits_xor_u64_nat _ _ x.isLt y.isLt, BitVec.toNat_xor]
theorem divU (x y : BitVec 64) : (U x).tdiv (U y) = U (x / y) := by
  unfold U; rw [Int.tdiv_eq_ediv_of_nonneg (Int.natCast_nonneg _), BitVec.toNat_udiv]; push_cast; rfl
theorem modU (x y : BitVec 64) : (U x).tmod (U y) = U (x % y) := by
  unfold U; rw [Int.tmod_eq_emod_of_nonneg (Int.natCast_nonneg _), BitVec.toNat_umod]; push_cast; rfl
theorem wrapU (x : BitVec 64) : IntKind.u64.wrap (U x) = U x := by
  unfold U; rw [IntKind.wrap_u64]; have := x.isLt; omega
theorem wrapS (x : BitVec 64) : wrap64 (S x) = S x := by
  have := S_bounds x; unfold wrap64; omega
theorem ofU (n : Int) (h0 : 0 ≤ n) (h1 : n < 18446744073709551616) : n = U (BitVec.ofInt 64 n) := by
  unfold U; rw [BitVec.toNat_ofInt]; omega
theorem wrapI (n : Int) : IntKind.u64.wrap n = U (BitVec.ofInt 64 n) := by
  unfold U; rw [IntKind.wrap_u64, BitVec.toNat_ofInt]; omega
theorem wrapJ (n : Int) : wrap64 n = S (BitVec.ofInt 64 n) := by
  unfold S wrap64; rw [BitVec.toInt_ofInt]; rw [Int.bmod_def]; omega

/-- The lowest n bits. -/
def cutB (x : BitVec 64) (n : Nat) : BitVec 64 := (x <<< (64 - n)) >>> (64 - n)
/-- The lowest n bits, signed. -/
def sgB (x : BitVec 64) (n : Nat) : BitVec 64 := (x <<< (64 - n)).sshiftRight (64 - n)
/-- A number of bits, brought between 1 and 64. -/
def clampN (n : Int) : Nat := if n < 1 then 1 else if 64 < n then 64 else n.toNat
theorem clampN_bd (n : Int) : 1 ≤ clampN n ∧ clampN n ≤ 64 := by unfold clampN; split; omega; split <;> omega
theorem cutB_toNat (x : BitVec 64) (n : Nat) (h : n ≤ 64) : (cutB x n).toNat = x.toNat % 2 ^ n := by
  unfold cutB
  rw [BitVec.toNat_ushiftRight, BitVec.toNat_shiftLeft, Nat.shiftLeft_eq, Nat.shiftRight_eq_div_pow]
  have e : (2 : Nat) ^ 64 = 2 ^ n * 2 ^ (64 - n) := by rw [← Nat.pow_add]; congr 1; omega
  rw [e, Nat.mul_mod_mul_right, Nat.mul_div_cancel _ (Nat.two_pow_pos _)]
theorem cutB_lt (x : BitVec 64) (n : Nat) (h : n ≤ 64) : (cutB x n).toNat < 2 ^ n := by
  rw [cutB_toNat x n h]; exact Nat.mod_lt _ (Nat.two_pow_pos _)
theorem cutB_of_lt (x : BitVec 64) (n : Nat) (h : n ≤ 64) (hx : x.toNat < 2 ^ n) : cutB x n = x := by
  apply BitVec.eq_of_toNat_eq; rw [cutB_toNat x n h, Nat.mod_eq_of_lt hx]
theorem cutB_64 (x : BitVec 64) : cutB x 64 = x := cutB_of_lt x 64 (Nat.le_refl _) x.isLt
theorem cutB_cutB (x : BitVec 64) (n : Nat) (h : n ≤ 64) : cutB (cutB x n) n = cutB x n := cutB_of_lt _ _ h (cutB_lt x n h)
theorem cutB_32 (x : BitVec 64) : cutB x 32 = x &&& 4294967295#64 := by
  apply BitVec.eq_of_toNat_eq
  rw [cutB_toNat x 32 (by decide), BitVec.toNat_and]
  exact (Nat.and_two_pow_sub_one_eq_mod _ 32).symm
theorem cutB_zero (n : Nat) : cutB 0#64 n = 0#64 := by
  unfold cutB; simp

/-- What both Sign give, for any number of bits. -/
def signSpec (x : BitVec 64) (n : Int) : BitVec 64 := sgB x (clampN n)
theorem signSpec_in (x : BitVec 64) (n : Int) (h0 : 1 ≤ n) (h1 : n ≤ 64) : signSpec x n = (x <<< (64 - n).toNat).sshiftRight (64 - n).toNat := by
  unfold signSpec sgB clampN
  rw [if_neg (by omega), if_neg (by omega)]
  have e : (64 - n).toNat = 64 - n.toNat := by omega
  rw [e]
theorem signSpec_lo (x : BitVec 64) (n : Int) (h0 : n < 1) : signSpec x n = (x <<< 63).sshiftRight 63 := by
  unfold signSpec sgB clampN; rw [if_pos h0]
theorem signSpec_hi (x : BitVec 64) (n : Int) (h0 : 64 < n) : signSpec x n = x := by
  unfold signSpec sgB clampN; rw [if_neg (by omega), if_pos h0]; simp
theorem sign_lo_eq (x : BitVec 64) (n : Int) (h0 : n < 1) :
    wrap64 (IntKind.u64.wrap (U x * 9223372036854775808)) / 9223372036854775808 = S (signSpec x n) := by
  rw [signSpec_lo x n h0]
  have a := shlU x 63
  have b := sarS (x <<< 63) 63
  rw [show (9223372036854775808 : Int) = 2 ^ 63 by rfl, a, toS, b]
theorem sign_hi_eq (x : BitVec 64) (n : Int) (h0 : 64 < n) : wrap64 (IntKind.u64.wrap (U x)) = S (signSpec x n) := by
  rw [signSpec_hi x n h0, wrapU, toS]
theorem sarS_pos (y : BitVec 64) (k n : Nat) (hk : k + n = 64) (h : y.toNat / 9223372036854775808 = 1) :
    S (y.sshiftRight k) = U (y >>> k) - 2 ^ n := by
  rw [← sarS, ← shrU]
  have e : S y = U y - 2 ^ n * 2 ^ k := by
    rw [← Int.pow_add, show n + k = 64 by omega]
    unfold S U; rw [BitVec.toInt_eq_toNat_cond]; have := y.isLt; rw [if_neg (by omega)]; omega
  have hp : (2 : Int) ^ k ≠ 0 := Int.ne_of_gt (Int.pow_pos (by decide))
  rw [e, Int.sub_eq_add_neg, ← Int.neg_mul, Int.add_mul_ediv_right _ _ hp]
  rfl
theorem sarS_neg (y : BitVec 64) (k : Nat) (h : ¬ y.toNat / 9223372036854775808 = 1) :
    S (y.sshiftRight k) = U (y >>> k) := by
  rw [← sarS, ← shrU]
  have e : S y = U y := by
    unfold S U; rw [BitVec.toInt_eq_toNat_cond]; have := y.isLt; rw [if_pos (by omega)]
  rw [e]
theorem wrap64_sub (a b : Int) : wrap64 (wrap64 a - wrap64 b) = wrap64 (a - b) := by unfold wrap64; omega
theorem S_wrap (x : BitVec 64) (e : Int) (h : S x = e) : wrap64 e = S x := by rw [← h, wrapS]
theorem rsign_yes (x : BitVec 64) (n : Int) (h0 : 1 ≤ n) (h1 : n ≤ 64)
    (h : (IntKind.u64.wrap (U x * 2 ^ (64 - n).toNat) / 9223372036854775808 == 1) = true) :
    wrap64 (wrap64 (IntKind.u64.wrap (U x * 2 ^ (64 - n).toNat) / 2 ^ (64 - n).toNat) - wrap64 (2 ^ n.toNat)) = S (signSpec x n) := by
  rw [signSpec_in x n h0 h1]
  rw [shlU] at h ⊢
  have hy : (x <<< (64 - n).toNat).toNat / 9223372036854775808 = 1 := by
    have := of_decide_eq_true h; unfold U at this; omega
  rw [wrap64_sub, shrU]
  exact S_wrap _ _ (sarS_pos _ _ n.toNat (by omega) hy)
theorem rsign_no (x : BitVec 64) (n : Int) (h0 : 1 ≤ n) (h1 : n ≤ 64)
    (h : (IntKind.u64.wrap (U x * 2 ^ (64 - n).toNat) / 9223372036854775808 == 1) = false) :
    wrap64 (IntKind.u64.wrap (U x * 2 ^ (64 - n).toNat) / 2 ^ (64 - n).toNat) = S (signSpec x n) := by
  rw [signSpec_in x n h0 h1]
  rw [shlU] at h ⊢
  have hy : ¬ (x <<< (64 - n).toNat).toNat / 9223372036854775808 = 1 := by
    have := of_decide_eq_false h; unfold U at this; omega
  rw [shrU]
  exact S_wrap _ _ (sarS_neg _ _ hy)
theorem rsign_64 (x : BitVec 64) (n : Int) (h0 : 1 ≤ n) (h1 : n ≤ 64) (h : 64 ≤ n) :
    wrap64 (IntKind.u64.wrap (U x * 2 ^ (64 - n).toNat) / 2 ^ (64 - n).toNat) = S (signSpec x n) := by
  obtain rfl : n = 64 := by omega
  rw [signSpec_in x 64 h0 h1, shlU, shrU, toS]; simp
theorem rsign_lo_yes (x : BitVec 64) (n : Int) (h0 : n < 1)
    (h : (IntKind.u64.wrap (U x * 9223372036854775808) / 9223372036854775808 == 1) = true) :
    wrap64 (wrap64 (IntKind.u64.wrap (U x * 9223372036854775808) / 9223372036854775808) - 2) = S (signSpec x n) := by
  have := rsign_yes x 1 (by decide) (by decide) h
  rw [signSpec_lo x n h0]
  rw [signSpec_in x 1 (by decide) (by decide), show wrap64 (2 ^ Int.toNat 1) = 2 by unfold wrap64; decide] at this
  exact this
theorem rsign_lo_no (x : BitVec 64) (n : Int) (h0 : n < 1)
    (h : (IntKind.u64.wrap (U x * 9223372036854775808) / 9223372036854775808 == 1) = false) :
    wrap64 (IntKind.u64.wrap (U x * 9223372036854775808) / 9223372036854775808) = S (signSpec x n) := by
  have := rsign_no x 1 (by decide) (by decide) h
  rw [signSpec_lo x n h0]
  rw [signSpec_in x 1 (by decide) (by decide)] at this
  exact this
end Go.Proofs.Ytmcogjfiocfmnaa
