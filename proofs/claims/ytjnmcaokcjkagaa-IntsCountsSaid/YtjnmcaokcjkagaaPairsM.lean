/-
  What is true of sums, turned words and quotients: the mathematics of IntsPairs. Nothing of the program stands here.
-/
import Derived.Test.YtjnmcaokcjkagaaSpec
namespace Go.Proofs.Ytjnmcaokcjkagaa
open Go.RowKit

/-- What Do gives for the computation at place k (0 to 17) with n bits. -/
def arOp (k n : Int) (x y : BitVec 64) : BitVec 64 × Int := (cutB (arRaw k n x y).1 n.toNat, (arRaw k n x y).2)

theorem cutU (v : BitVec 64) (n : Nat) (h : n ≤ 64) : U (cutB v n) = U v % 2 ^ n := by
  unfold U; rw [cutB_toNat v n h, Int.natCast_emod, Int.natCast_pow]; rfl
theorem M_dvd (n : Nat) (h : n ≤ 64) : (2 : Int) ^ n ∣ 18446744073709551616 := by
  rw [show (18446744073709551616 : Int) = 2 ^ n * 2 ^ (64 - n) by rw [← Int.pow_add, show n + (64 - n) = 64 by omega]; rfl]
  exact Int.dvd_mul_right _ _
theorem mod_M (t : Int) (n : Nat) (h : n ≤ 64) : t % 18446744073709551616 % 2 ^ n = t % 2 ^ n := Int.emod_emod_of_dvd t (M_dvd n h)
theorem addM (v w : BitVec 64) (n : Nat) (h : n ≤ 64) : U (cutB (v + w) n) = (U v + U w) % 2 ^ n := by
  rw [cutU _ n h, ← addU, IntKind.wrap_u64, mod_M _ n h]
theorem subM (v w : BitVec 64) (n : Nat) (h : n ≤ 64) : U (cutB (v - w) n) = (U v - U w) % 2 ^ n := by
  rw [cutU _ n h, ← subU, IntKind.wrap_u64, mod_M _ n h]
theorem mulM (v w : BitVec 64) (n : Nat) (h : n ≤ 64) : U (cutB (v * w) n) = (U v * U w) % 2 ^ n := by
  rw [cutU _ n h, ← mulU, IntKind.wrap_u64, mod_M _ n h]
theorem ofIntM (t : Int) (n : Nat) (h : n ≤ 64) : U (cutB (BitVec.ofInt 64 t) n) = t % 2 ^ n := by
  rw [cutU _ n h, ← wrapI, IntKind.wrap_u64, mod_M _ n h]
theorem small_M (x : BitVec 64) (n : Nat) (hx : x.toNat < 2 ^ n) : U x % 2 ^ n = U x := by
  apply Int.emod_eq_of_lt (U_nonneg x)
  unfold U
  have e : (2 : Int) ^ n = ((2 ^ n : Nat) : Int) := by rw [Int.natCast_pow]; rfl
  rw [e]; omega
theorem sgnM (x : BitVec 64) (n : Int) (h0 : 1 ≤ n) (h1 : n ≤ 64) : S (signSpec x n) % 2 ^ n.toNat = U x % 2 ^ n.toNat := by
  have hb := sgn_back x n h0 h1
  obtain ⟨m, hm⟩ : ∃ m, n.toNat = m := ⟨_, rfl⟩
  rw [hm] at hb ⊢
  have hm64 : m ≤ 64 := by omega
  have e1 : S (x <<< (64 - m)) % 18446744073709551616 = U x * 2 ^ (64 - m) % 18446744073709551616 := by
    have a := toU (x <<< (64 - m))
    have b := shlU x (64 - m)
    rw [IntKind.wrap_u64] at a b
    rw [a, b]
  rw [← hb, show (18446744073709551616 : Int) = 2 ^ m * 2 ^ (64 - m) by rw [← Int.pow_add, show m + (64 - m) = 64 by omega]; rfl] at e1
  have hp : (0 : Int) < 2 ^ (64 - m) := Int.pow_pos (by decide)
  rw [Int.mul_comm (S _), Int.mul_comm (U x), Int.mul_comm (2 ^ m), Int.mul_emod_mul_of_pos _ _ hp, Int.mul_emod_mul_of_pos _ _ hp] at e1
  exact Int.eq_of_mul_eq_mul_left (Int.ne_of_gt hp) e1

/-- A sum less one of its parts is the other one. -/
theorem sum_less (x y : BitVec 64) (n : Nat) (h : n ≤ 64) (hx : x.toNat < 2 ^ n) : cutB (cutB (x + y) n - y) n = x := by
  rw [← U_inj, subM _ _ n h, addM _ _ n h, Int.emod_sub_emod, show U x + U y - U y = U x by omega, small_M x n hx]
theorem quo_rem_key (T R Y M y' : Int) (hy : Y % M = y' % M) : ((T % M) * y' % M + R % M) % M = (Y * T + R) % M := by
  rw [← Int.add_emod, Int.add_emod (T % M * y'), Int.mul_emod, Int.emod_emod, ← hy, ← Int.mul_emod, ← Int.add_emod, Int.mul_comm]
/-- Quotient and remainder give the number back. -/
theorem quo_rem (x y : BitVec 64) (n : Int) (h0 : 1 ≤ n) (h1 : n ≤ 64) (hx : x.toNat < 2 ^ n.toNat) :
    cutB (cutB (cutB (BitVec.ofInt 64 ((S (signSpec x n)).tdiv (S (signSpec y n)))) n.toNat * y) n.toNat + cutB (BitVec.ofInt 64 ((S (signSpec x n)).tmod (S (signSpec y n)))) n.toNat) n.toNat = x := by
  have h : n.toNat ≤ 64 := by omega
  rw [← U_inj, addM _ _ _ h, mulM _ _ _ h, ofIntM _ _ h, ofIntM _ _ h]
  have hy := sgnM y n h0 h1
  have hX := sgnM x n h0 h1
  have e := Int.mul_tdiv_add_tmod (S (signSpec x n)) (S (signSpec y n))
  rw [quo_rem_key _ _ _ _ _ hy, e, hX, small_M x _ hx]
theorem quo_remU (x y : BitVec 64) (n : Nat) (h : n ≤ 64) (hx : x.toNat < 2 ^ n) :
    cutB (cutB (cutB (x / y) n * y) n + cutB (x % y) n) n = x := by
  rw [cut_div x y n h hx, cut_mod x y n h hx]
  rw [← U_inj, addM _ _ _ h, mulM _ _ _ h, Int.emod_add_emod, ← ediv_U, ← emod_U, Int.mul_comm, Int.mul_ediv_add_emod, small_M x n hx]

/-- A word of n bits, turned left by s. -/
def rotN (v n s : Nat) : Nat := v % 2 ^ (n - s) * 2 ^ s + v / 2 ^ (n - s)
theorem rot_toNat (v : BitVec 64) (n s : Nat) (h : n ≤ 64) (hs : s ≤ n) (hv : v.toNat < 2 ^ n) :
    (cutB (v <<< s ||| v >>> (n - s)) n).toNat = rotN v.toNat n s := by
  have e1 : 2 ^ n = 2 ^ (n - s) * 2 ^ s := by rw [← Nat.pow_add]; congr 1; omega
  have hq : v.toNat / 2 ^ (n - s) < 2 ^ s := by
    apply Nat.div_lt_of_lt_mul; rw [← e1]; exact hv
  rw [cutB_toNat _ _ h, BitVec.toNat_or, BitVec.toNat_shiftLeft, BitVec.toNat_ushiftRight, Nat.shiftLeft_eq, Nat.shiftRight_eq_div_pow]
  have e2 : 2 ^ 64 = 2 ^ (64 - s) * 2 ^ s := by rw [← Nat.pow_add]; congr 1; omega
  have e3 : v.toNat * 2 ^ s % 2 ^ 64 % 2 ^ s = 0 := by
    rw [e2, Nat.mul_mod_mul_right]; exact Nat.mul_mod_left _ _
  rw [nat_join s _ _ e3 hq]
  have e4 : 2 ^ n ∣ 2 ^ 64 := Nat.pow_dvd_pow 2 h
  rw [Nat.add_mod, Nat.mod_mod_of_dvd _ e4]
  unfold rotN
  rw [e1, Nat.mul_mod_mul_right]
  have hr : v.toNat % 2 ^ (n - s) + 1 ≤ 2 ^ (n - s) := Nat.mod_lt _ (Nat.two_pow_pos _)
  have hm := Nat.mul_le_mul_right (2 ^ s) hr
  rw [Nat.add_mul, Nat.one_mul] at hm
  have hq2 : v.toNat / 2 ^ (n - s) % (2 ^ (n - s) * 2 ^ s) = v.toNat / 2 ^ (n - s) := by
    apply Nat.mod_eq_of_lt
    exact Nat.lt_of_lt_of_le hq (Nat.le_mul_of_pos_left _ (Nat.two_pow_pos _))
  rw [hq2, Nat.mod_eq_of_lt]
  omega
theorem rotN_lt (v n s : Nat) (hs : s ≤ n) (hv : v < 2 ^ n) : rotN v n s < 2 ^ n := by
  have e1 : 2 ^ n = 2 ^ (n - s) * 2 ^ s := by rw [← Nat.pow_add]; congr 1; omega
  have hq : v / 2 ^ (n - s) < 2 ^ s := by
    apply Nat.div_lt_of_lt_mul; rw [← e1]; exact hv
  have hr : v % 2 ^ (n - s) + 1 ≤ 2 ^ (n - s) := Nat.mod_lt _ (Nat.two_pow_pos _)
  have hm := Nat.mul_le_mul_right (2 ^ s) hr
  rw [Nat.add_mul, Nat.one_mul, ← e1] at hm
  unfold rotN; omega
theorem rotN_back (v n s : Nat) (hs : s ≤ n) (hv : v < 2 ^ n) : rotN (rotN v n s) n (n - s) = v := by
  have e1 : 2 ^ n = 2 ^ (n - s) * 2 ^ s := by rw [← Nat.pow_add]; congr 1; omega
  have hq : v / 2 ^ (n - s) < 2 ^ s := by
    apply Nat.div_lt_of_lt_mul; rw [← e1]; exact hv
  have hp : 0 < 2 ^ s := Nat.two_pow_pos _
  have a : rotN v n s % 2 ^ s = v / 2 ^ (n - s) := by
    unfold rotN; rw [Nat.add_comm, Nat.add_mul_mod_self_right, Nat.mod_eq_of_lt hq]
  have b : rotN v n s / 2 ^ s = v % 2 ^ (n - s) := by
    unfold rotN; rw [Nat.add_comm, Nat.add_mul_div_right _ _ hp, Nat.div_eq_of_lt hq, Nat.zero_add]
  have c : rotN (rotN v n s) n (n - s) = rotN v n s % 2 ^ s * 2 ^ (n - s) + rotN v n s / 2 ^ s := by
    show rotN v n s % 2 ^ (n - (n - s)) * 2 ^ (n - s) + rotN v n s / 2 ^ (n - (n - s)) = _
    rw [show n - (n - s) = s by omega]
  rw [c, a, b, Nat.mul_comm]
  exact Nat.div_add_mod _ _
theorem rot_back (x : BitVec 64) (n s : Nat) (h : n ≤ 64) (hs : s ≤ n) (hx : x.toNat < 2 ^ n) :
    cutB (cutB (x <<< s ||| x >>> (n - s)) n >>> s ||| cutB (x <<< s ||| x >>> (n - s)) n <<< (n - s)) n = x := by
  have hl := rot_toNat x n s h hs hx
  obtain ⟨l, hle⟩ : ∃ l, cutB (x <<< s ||| x >>> (n - s)) n = l := ⟨_, rfl⟩
  rw [hle] at hl ⊢
  have hll : l.toNat < 2 ^ n := by rw [hl]; exact rotN_lt _ _ _ hs hx
  have hr := rot_toNat l n (n - s) h (by omega) hll
  rw [show n - (n - s) = s by omega] at hr
  apply BitVec.eq_of_toNat_eq
  rw [BitVec.or_comm, hr, hl, rotN_back _ _ _ hs hx]
end Go.Proofs.Ytjnmcaokcjkagaa
