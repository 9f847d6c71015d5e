/-
  Plain mathematics on 64-bit floating-point words: what a word stands for, as a whole number of least units; rounding of what is exact; order; whole parts. Nothing of the program stands here.
-/
import Derived.WalkKit
import Derived.WalkLawsBesides
namespace Go.Proofs.Ytejpbhgbafapoaa
open Ieee

theorem d_binade : double.binade = 4503599627370496 := by decide
theorem d_inf : double.infRung = 9218868437227405312 := by decide
theorem d_sw : double.signWeight = 9223372036854775808 := by decide
theorem d_least : double.leastPlace = -1074 := by decide
theorem d_frac : double.fractionBits = 52 := rfl
/-- The places from the least unit up to 1. -/
@[irreducible] def E : Nat := 1074
theorem E_eq : E = 1074 := by unfold E; rfl

/-- The significand of a rung. -/
def mant (r : Nat) : Nat := if r < 4503599627370496 then r else 4503599627370496 + r % 4503599627370496
/-- How many binades above the lowest one. -/
def ex (r : Nat) : Nat := r / 4503599627370496 - 1
/-- What a rung stands for, in least units. -/
def V (r : Nat) : Nat := mant r * 2 ^ ex r
def rung (n : Nat) : Nat := n % 9223372036854775808
def sgn (n : Nat) : Bool := n / 9223372036854775808 % 2 == 1

theorem mant_lt (r : Nat) : mant r < 9007199254740992 := by unfold mant; split <;> omega
theorem mant_ex (r : Nat) : ex r * 4503599627370496 + mant r = r := by unfold mant ex; split <;> omega
theorem ex_or (r : Nat) : ex r = 0 ∨ 4503599627370496 ≤ mant r := by unfold mant ex; split <;> omega
theorem rung_lt (n : Nat) : rung n < 9223372036854775808 := Nat.mod_lt _ (by decide)

theorem read_fin (n : Nat) (h : rung n < 9218868437227405312) : double.read n = .number (sgn n) (mant (rung n)) (-1074 + (ex (rung n) : Int)) := by
  unfold Format.read
  simp only [d_binade, d_inf, d_sw, d_least]
  change (if rung n < 4503599627370496 then Datum.number (sgn n) (rung n) (-1074) else if rung n < 9218868437227405312 then Datum.number (sgn n) (4503599627370496 + rung n % 4503599627370496) (-1074 + ((rung n / 4503599627370496 - 1 : Nat) : Int)) else if rung n = 9218868437227405312 then Datum.infinity (sgn n) else Datum.nan (sgn n) (rung n - 9218868437227405312)) = _
  by_cases h0 : rung n < 4503599627370496
  · rw [if_pos h0]; unfold mant ex; rw [if_pos h0]; congr 1; omega
  · rw [if_neg h0, if_pos h]; unfold mant ex; rw [if_neg h0]
theorem read_inf (n : Nat) (h : rung n = 9218868437227405312) : double.read n = .infinity (sgn n) := by
  unfold Format.read
  simp only [d_binade, d_inf, d_sw, d_least]
  change (if rung n < 4503599627370496 then Datum.number (sgn n) (rung n) (-1074) else if rung n < 9218868437227405312 then Datum.number (sgn n) (4503599627370496 + rung n % 4503599627370496) (-1074 + ((rung n / 4503599627370496 - 1 : Nat) : Int)) else if rung n = 9218868437227405312 then Datum.infinity (sgn n) else Datum.nan (sgn n) (rung n - 9218868437227405312)) = _
  rw [if_neg (by omega), if_neg (by omega), if_pos h]
theorem read_nan (n : Nat) (h : 9218868437227405312 < rung n) : double.read n = .nan (sgn n) (rung n - 9218868437227405312) := by
  unfold Format.read
  simp only [d_binade, d_inf, d_sw, d_least]
  change (if rung n < 4503599627370496 then Datum.number (sgn n) (rung n) (-1074) else if rung n < 9218868437227405312 then Datum.number (sgn n) (4503599627370496 + rung n % 4503599627370496) (-1074 + ((rung n / 4503599627370496 - 1 : Nat) : Int)) else if rung n = 9218868437227405312 then Datum.infinity (sgn n) else Datum.nan (sgn n) (rung n - 9218868437227405312)) = _
  rw [if_neg (by omega), if_neg (by omega), if_neg (by omega)]

/-! ### words -/
theorem word_rung (s : Bool) (r : Nat) (h : r < 9223372036854775808) : rung (double.word s r) = r ∧ sgn (double.word s r) = s := by
  unfold Format.word rung sgn; rw [d_sw]
  cases s
  · simp only [Bool.false_eq_true, if_false]; exact ⟨by omega, by simp; omega⟩
  · simp only [if_true]; exact ⟨by omega, by simp; omega⟩
theorem word_of (n : Nat) (h : n < 18446744073709551616) : double.word (sgn n) (rung n) = n := by
  unfold Format.word rung sgn; rw [d_sw]
  by_cases h1 : n / 9223372036854775808 % 2 = 1
  · simp only [h1, beq_self_eq_true, if_true]; omega
  · have : (n / 9223372036854775808 % 2 == 1) = false := by simp [h1]
    rw [this]; simp only [Bool.false_eq_true, if_false]; omega

/-! ### cutting -/
/-- What is added when 'rest' of 'gap' is cut off. -/
def more (way : Toward) (neg : Bool) (low rest gap : Nat) : Nat :=
  (match way with
    | .even => decide (gap < 2 * rest) || (gap == 2 * rest && low % 2 == 1)
    | .down => neg && rest != 0
    | .up => !neg && rest != 0
    | .zero => false).toNat
theorem more_le (way : Toward) (neg : Bool) (low rest gap : Nat) : more way neg low rest gap ≤ 1 := Bool.toNat_le _
theorem more_none (way : Toward) (neg : Bool) (low gap : Nat) (h : 0 < gap) : more way neg low 0 gap = 0 := by
  unfold more; cases way <;> simp <;> omega

theorem cut_eq (way : Toward) (neg : Bool) (n drop : Nat) : way.cut neg n drop = n / 2 ^ drop + more way neg (n / 2 ^ drop) (n % 2 ^ drop) (2 ^ drop) := by
  have key : ∀ g, way.cut neg n drop = n / g + more way neg (n / g) (n % g) g ∨ g ≠ 2 ^ min drop (n.log2 + 2) := by
    intro g
    by_cases hg : g = 2 ^ min drop (n.log2 + 2)
    · left; subst hg; unfold Toward.cut more; simp only [Nat.one_shiftLeft]; cases way <;> rfl
    · exact .inr hg
  by_cases h : drop ≤ n.log2 + 2
  · rcases key (2 ^ drop) with k | k
    · exact k
    · exact absurd (by rw [Nat.min_eq_left h]) k
  · have hm : min drop (n.log2 + 2) = n.log2 + 2 := Nat.min_eq_right (by omega)
    have h1 : n < 2 ^ (n.log2 + 1) := Nat.lt_log2_self
    have h2 : 2 ^ (n.log2 + 2) = 2 * 2 ^ (n.log2 + 1) := by rw [Nat.pow_succ, Nat.mul_comm]
    have h3 : 2 ^ (n.log2 + 2) ≤ 2 ^ drop := Nat.pow_le_pow_right (by decide) (by omega)
    rcases key (2 ^ (n.log2 + 2)) with k | k
    · rw [k, Nat.div_eq_of_lt (by omega), Nat.mod_eq_of_lt (by omega), Nat.div_eq_of_lt (by omega), Nat.mod_eq_of_lt (by omega)]
      congr 1
      unfold more
      cases way
      · have e1 : decide (2 ^ (n.log2 + 2) < 2 * n) = false := decide_eq_false (by omega)
        have e2 : decide (2 ^ drop < 2 * n) = false := decide_eq_false (by omega)
        simp only [e1, e2]
        simp
      all_goals rfl
    · exact absurd (by rw [hm]) k

theorem cut_exact (way : Toward) (neg : Bool) (k drop : Nat) : way.cut neg (k * 2 ^ drop) drop = k := by
  have hp : 0 < 2 ^ drop := Nat.two_pow_pos _
  rw [cut_eq, Nat.mul_div_cancel _ hp, Nat.mul_mod_left, more_none _ _ _ _ hp]; rfl
theorem cut_scale (way : Toward) (neg : Bool) (n drop k : Nat) : way.cut neg (n * 2 ^ k) (drop + k) = way.cut neg n drop := by
  have hp : 0 < 2 ^ k := Nat.two_pow_pos _
  rw [cut_eq, cut_eq, Nat.pow_add, Nat.mul_div_mul_right _ _ hp, Nat.mul_mod_mul_right]
  congr 1
  unfold more
  cases way
  · have e1 : (2 ^ drop * 2 ^ k < 2 * (n % 2 ^ drop * 2 ^ k)) ↔ (2 ^ drop < 2 * (n % 2 ^ drop)) := by
      rw [← Nat.mul_assoc]; exact Nat.mul_lt_mul_right hp
    have e2 : (2 ^ drop * 2 ^ k = 2 * (n % 2 ^ drop * 2 ^ k)) ↔ (2 ^ drop = 2 * (n % 2 ^ drop)) := by
      rw [← Nat.mul_assoc]; exact Nat.mul_left_inj (Nat.ne_of_gt hp)
    have e3 : decide (2 ^ drop * 2 ^ k < 2 * (n % 2 ^ drop * 2 ^ k)) = decide (2 ^ drop < 2 * (n % 2 ^ drop)) := decide_eq_decide.mpr e1
    have e4 : (2 ^ drop * 2 ^ k == 2 * (n % 2 ^ drop * 2 ^ k)) = (2 ^ drop == 2 * (n % 2 ^ drop)) := by
      rw [Bool.eq_iff_iff]; simp only [beq_iff_eq]; exact e2
    rw [e3, e4]
  · have e : (n % 2 ^ drop * 2 ^ k != 0) = (n % 2 ^ drop != 0) := by
      rw [Bool.eq_iff_iff]; simp only [bne_iff_ne, ne_eq, Nat.mul_eq_zero]; omega
    rw [e]
  · have e : (n % 2 ^ drop * 2 ^ k != 0) = (n % 2 ^ drop != 0) := by
      rw [Bool.eq_iff_iff]; simp only [bne_iff_ne, ne_eq, Nat.mul_eq_zero]; omega
    rw [e]
  · rfl

/-! ### what is exact is not rounded -/
theorem log2_mul_pow (k n : Nat) (h : k ≠ 0) : (k * 2 ^ n).log2 = k.log2 + n := by
  have hp : 0 < 2 ^ n := Nat.two_pow_pos _
  have hne : k * 2 ^ n ≠ 0 := Nat.mul_ne_zero h (Nat.ne_of_gt hp)
  rw [Nat.log2_eq_iff hne, Nat.pow_add, Nat.pow_succ, Nat.pow_add]
  have h1 := Nat.log2_self_le h
  have h2 : k < 2 ^ (k.log2 + 1) := Nat.lt_log2_self
  rw [Nat.pow_succ] at h2
  constructor
  · exact Nat.mul_le_mul_right _ h1
  · calc k * 2 ^ n < 2 ^ k.log2 * 2 * 2 ^ n := Nat.mul_lt_mul_of_pos_right h2 hp
      _ = 2 ^ k.log2 * 2 ^ n * 2 := by rw [Nat.mul_assoc, Nat.mul_comm 2, ← Nat.mul_assoc]

theorem log2_mant (r : Nat) (h : mant r ≠ 0) : max ((ex r : Int) - 1074 + (mant r).log2 - 52) (-1074) = (ex r : Int) - 1074 := by
  have h1 : (mant r).log2 < 53 := (Nat.log2_lt h).mpr (mant_lt r)
  rcases ex_or r with h2 | h2
  · rw [h2]; omega
  · have h3 : 52 ≤ (mant r).log2 := (Nat.le_log2 h).mpr h2
    omega

theorem near_exact (s : Bool) (mag : Nat) (place : Int) (r a b : Nat) (hr : r ≤ 9218868437227405312) (hp : place = (a : Int) - b - 1074) (h : mag * 2 ^ a = V r * 2 ^ b) :
    double.nearest s mag place = double.word s r := by
  have hpa : 0 < 2 ^ a := Nat.two_pow_pos _
  have hpb : 0 < 2 ^ b := Nat.two_pow_pos _
  unfold Format.nearest
  by_cases hm : mag = 0
  · rw [if_pos hm]
    have hv : V r = 0 := by
      rw [hm, Nat.zero_mul] at h
      rcases Nat.mul_eq_zero.mp h.symm with h | h
      · exact h
      · omega
    have hk : mant r = 0 := by
      unfold V at hv
      rcases Nat.mul_eq_zero.mp hv with h | h
      · exact h
      · have := Nat.two_pow_pos (ex r); omega
    have h0 := mant_ex r
    have h1 := ex_or r
    have : r = 0 := by omega
    rw [this]
  · rw [if_neg hm]
    have hk : mant r ≠ 0 := by
      intro h0
      unfold V at h
      rw [h0, Nat.zero_mul, Nat.zero_mul] at h
      rcases Nat.mul_eq_zero.mp h with h | h <;> omega
    -- the digits of both
    have hl : mag.log2 + a = (mant r).log2 + ex r + b := by
      rw [← log2_mul_pow mag a hm, h]
      unfold V
      rw [Nat.mul_assoc, ← Nat.pow_add, log2_mul_pow _ _ hk]; omega
    have hlast : max (place + (mag.log2 : Int) - (double.fractionBits : Nat)) double.leastPlace = (ex r : Int) - 1074 := by
      rw [d_least, d_frac, ← log2_mant r hk]; congr 1; omega
    simp only [hlast]
    have hkept : Toward.even.cut s (mag <<< (place - ((ex r : Int) - 1074)).toNat) ((ex r : Int) - 1074 - place).toNat = mant r := by
      rw [Nat.shiftLeft_eq]
      unfold V at h
      by_cases hc : ex r + b ≤ a
      · have e1 : (place - ((ex r : Int) - 1074)).toNat = a - (ex r + b) := by omega
        have e2 : ((ex r : Int) - 1074 - place).toNat = 0 := by omega
        rw [e1, e2]
        have e3 : mag * 2 ^ (a - (ex r + b)) = mant r := by
          have h4 : mag * 2 ^ (a - (ex r + b)) * 2 ^ (ex r + b) = mant r * 2 ^ (ex r + b) := by
            rw [Nat.mul_assoc, ← Nat.pow_add, Nat.sub_add_cancel hc, h, Nat.mul_assoc, ← Nat.pow_add]
          exact Nat.eq_of_mul_eq_mul_right (Nat.two_pow_pos _) h4
        rw [e3]
        have := cut_exact .even s (mant r) 0
        simpa using this
      · have e1 : (place - ((ex r : Int) - 1074)).toNat = 0 := by omega
        have e2 : ((ex r : Int) - 1074 - place).toNat = ex r + b - a := by omega
        rw [e1, e2, Nat.pow_zero, Nat.mul_one]
        have e3 : mag = mant r * 2 ^ (ex r + b - a) := by
          have h4 : mag * 2 ^ a = mant r * 2 ^ (ex r + b - a) * 2 ^ a := by
            rw [Nat.mul_assoc, ← Nat.pow_add, Nat.sub_add_cancel (by omega), h, Nat.mul_assoc, ← Nat.pow_add]
          exact Nat.eq_of_mul_eq_mul_right hpa h4
        rw [e3]
        exact cut_exact .even s (mant r) _
    rw [hkept, d_binade, d_inf, d_least]
    have e : ((ex r : Int) - 1074 - -1074).toNat = ex r := by omega
    rw [e, mant_ex, Nat.min_eq_left hr]

/-! ### order -/
theorem V_mono {r t : Nat} (h : r < t) : V r < V t := by
  unfold V
  have h1 := mant_ex r
  have h2 := mant_ex t
  have h3 := mant_lt r
  have h4 := ex_or t
  by_cases he : ex r = ex t
  · rw [he]; rw [he] at h1
    exact Nat.mul_lt_mul_of_pos_right (by omega) (Nat.two_pow_pos _)
  · have hlt : ex r < ex t := by
      unfold ex at *; omega
    have h5 : 4503599627370496 ≤ mant t := by omega
    have h6 : 2 ^ (ex r + 1) ≤ 2 ^ ex t := Nat.pow_le_pow_right (by decide) hlt
    calc mant r * 2 ^ ex r < 9007199254740992 * 2 ^ ex r := Nat.mul_lt_mul_of_pos_right h3 (Nat.two_pow_pos _)
      _ = 4503599627370496 * 2 ^ (ex r + 1) := by rw [Nat.pow_succ]; omega
      _ ≤ mant t * 2 ^ ex t := Nat.mul_le_mul h5 h6
theorem V_inj {r t : Nat} (h : V r = V t) : r = t := by
  rcases Nat.lt_trichotomy r t with g | g | g
  · have := V_mono g; omega
  · exact g
  · have := V_mono g; omega
theorem V_zero : V 0 = 0 := by decide

/-- What a word that is no NaN stands for, in least units; an infinity as the next number. -/
def val (n : Nat) : Int := if sgn n then -(V (rung n) : Int) else V (rung n)
def isNaN (n : Nat) : Bool := decide (9218868437227405312 < rung n)

theorem cmp_lt {a b : Int} (h : a < b) : compare a b = .lt := by
  simp [compare, compareOfLessAndEq, h]
theorem cmp_gt {a b : Int} (h : b < a) : compare a b = .gt := by
  have h1 : ¬ a < b := by omega
  have h2 : ¬ a = b := by omega
  simp [compare, compareOfLessAndEq, h1, h2]
theorem cmp_eq {a b : Int} (h : a = b) : compare a b = .eq := by
  subst h; simp [compare, compareOfLessAndEq]
theorem cmp_mul (a b : Int) (k : Nat) (hk : 0 < k) : compare (a * k) (b * k) = compare a b := by
  have hk' : (0 : Int) < k := by omega
  rcases Int.lt_trichotomy a b with g | g | g
  · rw [cmp_lt g, cmp_lt (Int.mul_lt_mul_of_pos_right g hk')]
  · rw [cmp_eq g, cmp_eq (by rw [g])]
  · rw [cmp_gt g, cmp_gt (Int.mul_lt_mul_of_pos_right g hk')]
theorem signed_mul (s : Bool) (m a k : Nat) : signed s m a * (2 ^ k : Nat) = if s then -((m * 2 ^ (a + k) : Nat) : Int) else ((m * 2 ^ (a + k) : Nat) : Int) := by
  unfold signed
  rw [Nat.shiftLeft_eq, Nat.pow_add, ← Nat.mul_assoc]
  cases s
  · simp only [Bool.false_eq_true, if_false]; rw [← Int.natCast_mul]
  · simp only [if_true]; rw [Int.neg_mul, ← Int.natCast_mul]

theorem order_fin (a b : Nat) (ha : rung a < 9218868437227405312) (hb : rung b < 9218868437227405312) : double.order a b = some (compare (val a) (val b)) := by
  unfold Format.order
  rw [read_fin a ha, read_fin b hb]
  unfold Datum.order
  simp only []
  have e1 : (-1074 + (ex (rung a) : Int) - min (-1074 + (ex (rung a) : Int)) (-1074 + (ex (rung b) : Int))).toNat + min (ex (rung a)) (ex (rung b)) = ex (rung a) := by omega
  have e2 : (-1074 + (ex (rung b) : Int) - min (-1074 + (ex (rung a) : Int)) (-1074 + (ex (rung b) : Int))).toNat + min (ex (rung a)) (ex (rung b)) = ex (rung b) := by omega
  rw [← cmp_mul _ _ (2 ^ min (ex (rung a)) (ex (rung b))) (Nat.two_pow_pos _), signed_mul, signed_mul, e1, e2]
  rfl
theorem val_lt_inf (a b : Nat) (ha : rung a < 9218868437227405312) (hb : rung b = 9218868437227405312) : if sgn b then val b < val a else val a < val b := by
  have h := V_mono (r := rung a) (t := rung b) (by omega)
  unfold val
  cases sgn a <;> cases sgn b <;> simp <;> omega
theorem V_inf_pos : 0 < V 9218868437227405312 := by
  have := V_mono (r := 0) (t := 9218868437227405312) (by decide); omega
theorem order_num (a b : Nat) (ha : rung a ≤ 9218868437227405312) (hb : rung b ≤ 9218868437227405312) : double.order a b = some (compare (val a) (val b)) := by
  by_cases fa : rung a < 9218868437227405312
  · by_cases fb : rung b < 9218868437227405312
    · exact order_fin a b fa fb
    · have h := val_lt_inf a b fa (by omega)
      unfold Format.order
      rw [read_fin a fa, read_inf b (by omega)]
      unfold Datum.order
      cases hs : sgn b <;> rw [hs] at h <;> simp only [Bool.false_eq_true, if_false, if_true] at h ⊢
      · rw [cmp_lt h]
      · rw [cmp_gt h]
  · by_cases fb : rung b < 9218868437227405312
    · have h := val_lt_inf b a fb (by omega)
      unfold Format.order
      rw [read_fin b fb, read_inf a (by omega)]
      unfold Datum.order
      cases hs : sgn a <;> rw [hs] at h <;> simp only [Bool.false_eq_true, if_false, if_true] at h ⊢
      · rw [cmp_gt h]
      · rw [cmp_lt h]
    · unfold Format.order
      rw [read_inf a (by omega), read_inf b (by omega)]
      have ea : rung a = 9218868437227405312 := by omega
      have eb : rung b = 9218868437227405312 := by omega
      have hp := V_inf_pos
      unfold Datum.order val
      rw [ea, eb]
      cases sgn a <;> cases sgn b <;> simp only [Bool.false_eq_true, if_false, if_true]
      · rw [cmp_eq rfl]; rfl
      · rw [cmp_gt (by omega)]; rfl
      · rw [cmp_lt (by omega)]; rfl
      · rw [cmp_eq rfl]; rfl
theorem order_nanl (a b : Nat) (h : 9218868437227405312 < rung a) : double.order a b = none := by
  unfold Format.order; rw [read_nan a h]; unfold Datum.order; rfl
theorem order_nanr (a b : Nat) (h : 9218868437227405312 < rung b) : double.order a b = none := by
  unfold Format.order; rw [read_nan b h]; cases double.read a <;> rfl
theorem isNaN_eq (a : Nat) : (double.order a a != some .eq) = isNaN a := by
  by_cases h : 9218868437227405312 < rung a
  · rw [order_nanl a a h]; unfold isNaN; rw [decide_eq_true h]; rfl
  · rw [order_num a a (by omega) (by omega), cmp_eq rfl]; unfold isNaN; rw [decide_eq_false h]; rfl
theorem isNaN_iff (a : Nat) : isNaN a = true ↔ 9218868437227405312 < rung a := by unfold isNaN; simp
theorem isNaN_not (a : Nat) : isNaN a = false ↔ rung a ≤ 9218868437227405312 := by unfold isNaN; simp
theorem nan_word (s : Bool) (r : Nat) (h : r ≤ 9218868437227405312) : isNaN (double.word s r) = false := by
  rw [isNaN_not, (word_rung s r (by omega)).1]; exact h
theorem nan_nearest (s : Bool) (m : Nat) (p : Int) : isNaN (double.nearest s m p) = false := by
  unfold Format.nearest
  split
  · exact nan_word s 0 (by decide)
  · refine nan_word s _ ?_
    rw [d_inf]; exact Nat.min_le_right _ _
theorem nan_write {d : Datum} (h : d.isNaN = false) : isNaN (double.write d) = false := by
  cases d with
  | number s m p => exact nan_nearest s m p
  | infinity s => exact nan_word s _ (by rw [d_inf]; exact Nat.le_refl _)
  | nan s f => cases h
theorem val_word (s : Bool) (r : Nat) (h : r < 9223372036854775808) : val (double.word s r) = if s then -(V r : Int) else V r := by
  unfold val; rw [(word_rung s r h).1, (word_rung s r h).2]

/-! ### whole numbers -/
/-- A small whole number has a rung. -/
theorem canon (N : Nat) (h : N < 9007199254740992) : ∃ r, r < 9218868437227405312 ∧ V r = N * 2 ^ E := by
  by_cases h0 : N = 0
  · exact ⟨0, by decide, by rw [h0, V_zero]; exact (Nat.zero_mul _).symm⟩
  · have hl : N.log2 < 53 := (Nat.log2_lt h0).mpr h
    have h1 := Nat.log2_self_le h0
    have h2 : N < 2 ^ (N.log2 + 1) := Nat.lt_log2_self
    obtain ⟨K, hK⟩ : ∃ K, N * 2 ^ (52 - N.log2) = K := ⟨_, rfl⟩
    have k1 : 4503599627370496 ≤ K := by
      rw [← hK]
      calc 4503599627370496 = 2 ^ (N.log2 + (52 - N.log2)) := by rw [show N.log2 + (52 - N.log2) = 52 by omega]
        _ = 2 ^ N.log2 * 2 ^ (52 - N.log2) := Nat.pow_add ..
        _ ≤ _ := Nat.mul_le_mul_right _ h1
    have k2 : K < 9007199254740992 := by
      rw [← hK]
      calc N * 2 ^ (52 - N.log2) < 2 ^ (N.log2 + 1) * 2 ^ (52 - N.log2) := Nat.mul_lt_mul_of_pos_right h2 (Nat.two_pow_pos _)
        _ = 2 ^ (N.log2 + 1 + (52 - N.log2)) := (Nat.pow_add ..).symm
        _ = 9007199254740992 := by rw [show N.log2 + 1 + (52 - N.log2) = 53 by omega]
    refine ⟨(1022 + N.log2) * 4503599627370496 + K, by omega, ?_⟩
    have e1 : mant ((1022 + N.log2) * 4503599627370496 + K) = K := by unfold mant; rw [if_neg (by omega)]; omega
    have e2 : ex ((1022 + N.log2) * 4503599627370496 + K) = 1022 + N.log2 := by unfold ex; omega
    unfold V
    have hE := E_eq
    rw [e1, e2, ← hK, Nat.mul_assoc, ← Nat.pow_add]
    congr 2; omega

theorem near_whole (s : Bool) (N r : Nat) (hr : r ≤ 9218868437227405312) (h : V r = N * 2 ^ E) : double.nearest s N 0 = double.word s r :=
  near_exact s N 0 r E 0 hr (by have := E_eq; omega) (by rw [h, Nat.pow_zero, Nat.mul_one])

/-- The whole part of what a rung stands for, in the way asked for. -/
def part (way : Toward) (s : Bool) (r : Nat) : Nat := way.cut s (V r) E
theorem part_eq (way : Toward) (s : Bool) (r : Nat) : way.cut s (mant r <<< (-1074 + (ex r : Int)).toNat) (-(-1074 + (ex r : Int))).toNat = part way s r := by
  unfold part V
  have hE := E_eq
  rw [Nat.shiftLeft_eq]
  by_cases h : E ≤ ex r
  · have e1 : (-1074 + (ex r : Int)).toNat = ex r - E := by omega
    have e2 : (-(-1074 + (ex r : Int))).toNat = 0 := by omega
    rw [e1, e2]
    have e3 : mant r * 2 ^ ex r = mant r * 2 ^ (ex r - E) * 2 ^ E := by
      rw [Nat.mul_assoc, ← Nat.pow_add, Nat.sub_add_cancel h]
    rw [e3, cut_exact]
    have := cut_exact way s (mant r * 2 ^ (ex r - E)) 0
    simpa using this
  · have e1 : (-1074 + (ex r : Int)).toNat = 0 := by omega
    have e2 : (-(-1074 + (ex r : Int))).toNat = E - ex r := by omega
    rw [e1, e2, Nat.pow_zero, Nat.mul_one]
    have := cut_scale way s (mant r) (E - ex r) (ex r)
    rw [show E - ex r + ex r = E by omega] at this
    exact this.symm
theorem part_rep (way : Toward) (s : Bool) (r : Nat) (hr : r < 9218868437227405312) : ∃ t, t < 9218868437227405312 ∧ V t = part way s r * 2 ^ E := by
  have hE := E_eq
  by_cases h : E ≤ ex r
  · refine ⟨r, hr, ?_⟩
    have e3 : V r = mant r * 2 ^ (ex r - E) * 2 ^ E := by
      unfold V; rw [Nat.mul_assoc, ← Nat.pow_add, Nat.sub_add_cancel h]
    unfold part
    rw [e3, cut_exact]
  · apply canon
    have h1 := mant_lt r
    have e : part way s r = way.cut s (mant r) (E - ex r) := by
      have := cut_scale way s (mant r) (E - ex r) (ex r)
      rw [show E - ex r + ex r = E by omega] at this
      exact this
    rw [e, cut_eq]
    have h2 := more_le way s (mant r / 2 ^ (E - ex r)) (mant r % 2 ^ (E - ex r)) (2 ^ (E - ex r))
    have h3 : mant r / 2 ^ (E - ex r) ≤ mant r / 2 := by
      have h4 : 2 ≤ 2 ^ (E - ex r) := by
        have h5 : 2 ^ 1 ≤ 2 ^ (E - ex r) := Nat.pow_le_pow_right (by decide) (by omega)
        simpa using h5
      exact Nat.div_le_div_left h4 (by decide)
    omega
theorem part_whole (way : Toward) (s : Bool) (r N : Nat) (h : V r = N * 2 ^ E) : part way s r = N := by
  unfold part; rw [h]; exact cut_exact _ _ _ _

/-- What a word becomes when it is made whole. -/
def integ (way : Toward) (n : Nat) : Nat := double.write ((double.read n).integral way)
theorem integ_fin (way : Toward) (n : Nat) (h : rung n < 9218868437227405312) : ∃ t, t < 9218868437227405312 ∧ V t = part way (sgn n) (rung n) * 2 ^ E ∧ integ way n = double.word (sgn n) t := by
  obtain ⟨t, ht, hv⟩ := part_rep way (sgn n) (rung n) h
  refine ⟨t, ht, hv, ?_⟩
  unfold integ
  rw [read_fin n h]
  unfold Datum.integral Format.write
  simp only []
  rw [part_eq]
  exact near_whole _ _ t (by omega) hv
theorem integ_inf (way : Toward) (n : Nat) (h : rung n = 9218868437227405312) : integ way n = double.word (sgn n) 9218868437227405312 := by
  unfold integ
  rw [read_inf n h]
  unfold Datum.integral Format.write
  simp only []
  rw [d_inf]
theorem integ_lt (way : Toward) (n : Nat) : integ way n < 18446744073709551616 := double.write_lt _
/-- The integer that is cut off towards zero. -/
theorem toInt_fin (n : Nat) (h : rung n < 9218868437227405312) : (double.read n).toInt .zero = some (if sgn n then -(part .zero (sgn n) (rung n) : Int) else part .zero (sgn n) (rung n)) := by
  rw [read_fin n h]
  unfold Datum.toInt Datum.integral
  simp only []
  rw [part_eq]
  unfold signed
  rw [Nat.shiftLeft_zero]
theorem toInt_inf (n : Nat) (h : rung n = 9218868437227405312) : (double.read n).toInt .zero = none := by
  rw [read_inf n h]; rfl

/-! ### whole parts, once more -/
theorem integ_word (way : Toward) (n : Nat) (h : rung n ≤ 9218868437227405312) : ∃ t, t ≤ 9218868437227405312 ∧ V t = part way (sgn n) (rung n) * 2 ^ E ∧ integ way n = double.word (sgn n) t := by
  by_cases hf : rung n < 9218868437227405312
  · obtain ⟨t, h1, h2, h3⟩ := integ_fin way n hf
    exact ⟨t, by omega, h2, h3⟩
  · have hi : rung n = 9218868437227405312 := by omega
    refine ⟨9218868437227405312, Nat.le_refl _, ?_, integ_inf way n hi⟩
    rw [hi]
    have hE := E_eq
    have e1 : mant 9218868437227405312 = 4503599627370496 := by decide
    have e2 : ex 9218868437227405312 = 2046 := by decide
    have e3 : V 9218868437227405312 = 4503599627370496 * 2 ^ (2046 - E) * 2 ^ E := by
      unfold V; rw [e1, e2, Nat.mul_assoc, ← Nat.pow_add]; congr 2; omega
    have := part_whole way (sgn n) _ _ e3
    rw [this]; exact e3
theorem integ_parts (way : Toward) (n : Nat) (h : rung n ≤ 9218868437227405312) : sgn (integ way n) = sgn n ∧ rung (integ way n) ≤ 9218868437227405312 ∧ V (rung (integ way n)) = part way (sgn n) (rung n) * 2 ^ E := by
  obtain ⟨t, h1, h2, h3⟩ := integ_word way n h
  obtain ⟨r1, r2⟩ := word_rung (sgn n) t (by omega)
  rw [h3, r1, r2]
  exact ⟨rfl, h1, h2⟩
theorem word_eq (a b : Nat) (ha : a < 18446744073709551616) (hb : b < 18446744073709551616) (hs : sgn a = sgn b) (hr : rung a = rung b) : a = b := by
  rw [← word_of a ha, ← word_of b hb, hs, hr]
theorem integ_eq (w1 w2 : Toward) (n : Nat) (h : rung n ≤ 9218868437227405312) (hp : part w1 (sgn n) (rung n) = part w2 (sgn n) (rung n)) : integ w1 n = integ w2 n := by
  obtain ⟨a1, a2, a3⟩ := integ_parts w1 n h
  obtain ⟨b1, b2, b3⟩ := integ_parts w2 n h
  exact word_eq _ _ (integ_lt _ _) (integ_lt _ _) (by rw [a1, b1]) (V_inj (by rw [a3, b3, hp]))
theorem integ_integ (w1 w2 : Toward) (n : Nat) (h : rung n ≤ 9218868437227405312) : integ w1 (integ w2 n) = integ w2 n := by
  obtain ⟨b1, b2, b3⟩ := integ_parts w2 n h
  obtain ⟨a1, a2, a3⟩ := integ_parts w1 (integ w2 n) b2
  exact word_eq _ _ (integ_lt _ _) (integ_lt _ _) a1 (V_inj (by rw [a3, b3, part_whole _ _ _ _ b3]))
theorem val_integ (way : Toward) (n : Nat) (h : rung n ≤ 9218868437227405312) : val (integ way n) = if sgn n then -((part way (sgn n) (rung n) * 2 ^ E : Nat) : Int) else ((part way (sgn n) (rung n) * 2 ^ E : Nat) : Int) := by
  obtain ⟨b1, b2, b3⟩ := integ_parts way n h
  unfold val; rw [b1, b3]

/-- What a part is: the quotient, and one more or not. -/
theorem part_is (way : Toward) (s : Bool) (r : Nat) : part way s r = V r / 2 ^ E + more way s (V r / 2 ^ E) (V r % 2 ^ E) (2 ^ E) := cut_eq ..
theorem down_le (n : Nat) (h : rung n ≤ 9218868437227405312) : val (integ .down n) ≤ val n := by
  rw [val_integ _ _ h, part_is]
  have hp : 0 < 2 ^ E := Nat.two_pow_pos _
  have hd := Nat.div_add_mod (V (rung n)) (2 ^ E)
  have hm := Nat.mod_lt (V (rung n)) hp
  have h2 : 2 ^ E * (V (rung n) / 2 ^ E) = (V (rung n) / 2 ^ E) * 2 ^ E := Nat.mul_comm _ _
  unfold val more
  generalize V (rung n) / 2 ^ E = q at *
  generalize V (rung n) % 2 ^ E = m at *
  generalize V (rung n) = v at *
  cases sgn n
  · simp only [Bool.false_eq_true, if_false, Bool.false_and, Bool.toNat_false, Nat.add_zero]; omega
  · simp only [if_true, Bool.true_and]
    by_cases hz : m = 0
    · subst hz; simp only [bne_self_eq_false, Bool.toNat_false, Nat.add_zero]; omega
    · have : (m != 0) = true := by simp [hz]
      rw [this, Bool.toNat_true, Nat.add_mul]; omega
theorem le_up (n : Nat) (h : rung n ≤ 9218868437227405312) : val n ≤ val (integ .up n) := by
  rw [val_integ _ _ h, part_is]
  have hp : 0 < 2 ^ E := Nat.two_pow_pos _
  have hd := Nat.div_add_mod (V (rung n)) (2 ^ E)
  have hm := Nat.mod_lt (V (rung n)) hp
  have h2 : 2 ^ E * (V (rung n) / 2 ^ E) = (V (rung n) / 2 ^ E) * 2 ^ E := Nat.mul_comm _ _
  unfold val more
  generalize V (rung n) / 2 ^ E = q at *
  generalize V (rung n) % 2 ^ E = m at *
  generalize V (rung n) = v at *
  cases sgn n
  · simp only [Bool.false_eq_true, if_false, Bool.not_false, Bool.true_and]
    by_cases hz : m = 0
    · subst hz; simp only [bne_self_eq_false, Bool.toNat_false, Nat.add_zero]; omega
    · have : (m != 0) = true := by simp [hz]
      rw [this, Bool.toNat_true, Nat.add_mul]; omega
  · simp only [if_true, Bool.not_true, Bool.false_and, Bool.toNat_false, Nat.add_zero]; omega
theorem even_either (n : Nat) (h : rung n ≤ 9218868437227405312) : integ .even n = integ .up n ∨ integ .even n = integ .down n := by
  have hp : 0 < 2 ^ E := Nat.two_pow_pos _
  by_cases hz : V (rung n) % 2 ^ E = 0
  · left; apply integ_eq _ _ _ h
    rw [part_is, part_is, hz, more_none _ _ _ _ hp, more_none _ _ _ _ hp]
  · have hb : (V (rung n) % 2 ^ E != 0) = true := by simp [hz]
    have hm := more_le .even (sgn n) (V (rung n) / 2 ^ E) (V (rung n) % 2 ^ E) (2 ^ E)
    have hu : more .up (sgn n) (V (rung n) / 2 ^ E) (V (rung n) % 2 ^ E) (2 ^ E) = (!sgn n).toNat := by unfold more; rw [hb]; simp
    have hd : more .down (sgn n) (V (rung n) / 2 ^ E) (V (rung n) % 2 ^ E) (2 ^ E) = (sgn n).toNat := by unfold more; rw [hb]; simp
    have hor : more .even (sgn n) (V (rung n) / 2 ^ E) (V (rung n) % 2 ^ E) (2 ^ E) = (!sgn n).toNat ∨ more .even (sgn n) (V (rung n) / 2 ^ E) (V (rung n) % 2 ^ E) (2 ^ E) = (sgn n).toNat := by
      generalize more .even (sgn n) (V (rung n) / 2 ^ E) (V (rung n) % 2 ^ E) (2 ^ E) = z at hm
      cases sgn n <;> simp only [Bool.not_false, Bool.not_true, Bool.toNat_true, Bool.toNat_false] <;> omega
    rcases hor with h1 | h1
    · left; apply integ_eq _ _ _ h
      rw [part_is, part_is, h1, hu]
    · right; apply integ_eq _ _ _ h
      rw [part_is, part_is, h1, hd]
theorem cut_neg (n : Nat) (h : rung n ≤ 9218868437227405312) (hs : sgn n = true) : integ .zero n = integ .up n := by
  apply integ_eq _ _ _ h
  rw [part_is, part_is, hs]; rfl
theorem cut_pos (n : Nat) (h : rung n ≤ 9218868437227405312) (hs : sgn n = false) : integ .zero n = integ .down n := by
  apply integ_eq _ _ _ h
  rw [part_is, part_is, hs]; rfl
theorem cut_nought (n : Nat) (h : rung n = 0) : integ .zero n = integ .down n := by
  apply integ_eq _ _ _ (by omega)
  have hp : 0 < 2 ^ E := Nat.two_pow_pos _
  rw [part_is, part_is, h, V_zero, Nat.zero_mod, more_none _ _ _ _ hp, more_none _ _ _ _ hp]
/-- Less than nought: the sign, and not nought. -/
theorem val_neg (n : Nat) : val n < 0 ↔ sgn n = true ∧ rung n ≠ 0 := by
  unfold val
  by_cases h0 : rung n = 0
  · rw [h0, V_zero]; cases sgn n <;> simp
  · have := V_mono (r := 0) (t := rung n) (by omega)
    rw [V_zero] at this
    cases hs : sgn n <;> simp [h0] <;> omega
theorem val_zero : val 0 = 0 := by decide

/-! ### to whole numbers -/
/-- The integer that a word is cut to; of an infinity a great one. -/
def tr (n : Nat) : Int := if sgn n then -(part .zero (sgn n) (rung n) : Int) else part .zero (sgn n) (rung n)
theorem val_trunc (n : Nat) (h : rung n ≤ 9218868437227405312) : val (integ .zero n) = tr n * (2 ^ E : Nat) := by
  rw [val_integ _ _ h]
  unfold tr
  cases sgn n <;> simp only [Bool.false_eq_true, if_false, if_true]
  · rw [Int.natCast_mul]
  · rw [Int.neg_mul, Int.natCast_mul]
theorem order_trunc (n L : Nat) (l : Int) (h : rung n ≤ 9218868437227405312) (hL : rung L ≤ 9218868437227405312) (hl : val L = l * (2 ^ E : Nat)) : double.order (integ .zero n) L = some (compare (tr n) l) := by
  rw [order_num _ _ (integ_parts .zero n h).2.1 hL, val_trunc n h, hl]
  exact congrArg some (cmp_mul _ _ _ (Nat.two_pow_pos _))
theorem V_pow (k : Nat) (hk : k < 1024) : V ((1023 + k) * 4503599627370496) = 2 ^ k * 2 ^ E := by
  have hE := E_eq
  have e1 : mant ((1023 + k) * 4503599627370496) = 2 ^ 52 := by unfold mant; rw [if_neg (by omega)]; omega
  have e2 : ex ((1023 + k) * 4503599627370496) = 1022 + k := by unfold ex; omega
  unfold V
  rw [e1, e2, ← Nat.pow_add, ← Nat.pow_add]; congr 1; omega
theorem tr_inf (n : Nat) (h : rung n = 9218868437227405312) : 18446744073709551616 ≤ (tr n).natAbs := by
  have hE := E_eq
  have e1 : mant 9218868437227405312 = 4503599627370496 := by decide
  have e2 : ex 9218868437227405312 = 2046 := by decide
  have e3 : V 9218868437227405312 = 4503599627370496 * 2 ^ (2046 - E) * 2 ^ E := by
    unfold V; rw [e1, e2, Nat.mul_assoc, ← Nat.pow_add]; congr 2; omega
  have h1 : (tr n).natAbs = 4503599627370496 * 2 ^ (2046 - E) := by
    unfold tr
    rw [h, part_whole .zero (sgn n) _ _ e3]
    cases sgn n <;> simp only [Bool.false_eq_true, if_false, if_true] <;> omega
  have h2 : 2 ^ 12 ≤ 2 ^ (2046 - E) := Nat.pow_le_pow_right (by decide) (by omega)
  omega
theorem toInt_trunc (n : Nat) (h : rung n ≤ 9218868437227405312) (hs : (tr n).natAbs < 18446744073709551616) : (double.read (integ .zero n)).toInt .zero = some (tr n) := by
  have hf : rung n < 9218868437227405312 := by
    by_cases hi : rung n = 9218868437227405312
    · have := tr_inf n hi; omega
    · omega
  obtain ⟨t, h1, h2, h3⟩ := integ_fin .zero n hf
  obtain ⟨r1, r2⟩ := word_rung (sgn n) t (by omega)
  rw [h3, toInt_fin _ (by rw [r1]; exact h1), r1, r2, part_whole _ _ _ _ h2]
  rfl
/-- A small integer goes to a word and is cut to itself. -/
theorem tr_ofInt (m : Int) (h : m.natAbs < 9007199254740992) : tr (double.nearest (decide (m < 0)) m.natAbs 0) = m ∧ isNaN (double.nearest (decide (m < 0)) m.natAbs 0) = false := by
  refine ⟨?_, nan_nearest _ _ _⟩
  obtain ⟨r, h1, h2⟩ := canon m.natAbs h
  rw [near_whole _ _ r (by omega) h2]
  obtain ⟨r1, r2⟩ := word_rung (decide (m < 0)) r (by omega)
  unfold tr
  rw [r1, r2, part_whole _ _ _ _ h2]
  by_cases hm : m < 0
  · rw [decide_eq_true hm]; simp only [if_true]; omega
  · rw [decide_eq_false hm]; simp only [Bool.false_eq_true, if_false]; omega

/-! ### sums and products -/
theorem sum_comm (a b : Datum) : a.sum b = b.sum a := by
  cases a with
  | nan => cases b <;> rfl
  | infinity s =>
    cases b with
    | nan => rfl
    | infinity t => unfold Datum.sum; cases s <;> cases t <;> rfl
    | number => rfl
  | number s m i =>
    cases b with
    | nan => rfl
    | infinity => rfl
    | number t n j =>
      unfold Datum.sum
      simp only [Int.min_comm j i, Int.add_comm (signed t n _), Bool.and_comm t s]
theorem product_comm (a b : Datum) : a.product b = b.product a := by
  cases a with
  | nan => cases b <;> rfl
  | infinity s =>
    cases b with
    | nan => rfl
    | infinity t => unfold Datum.product; simp only [Bool.xor_comm s t]
    | number => rfl
  | number s m i =>
    cases b with
    | nan => rfl
    | infinity => rfl
    | number t n j =>
      unfold Datum.product
      simp only [Bool.xor_comm s t, Nat.mul_comm m n, Int.add_comm i j]
theorem add_comm (a b : Nat) : double.add a b = double.add b a := by unfold Format.add; rw [sum_comm]
theorem mul_comm (a b : Nat) : double.mul a b = double.mul b a := by unfold Format.mul; rw [product_comm]

/-- NaNs are made quiet; every other result stays. -/
def qz : Option Nat → Nat
  | some r => if isNaN r then 9221120237041090560 else r
  | none => 9221120237041090560
theorem sub_self_nan (a : Nat) (h : 9218868437227405312 < rung a) : double.sub a a = none := by
  unfold Format.sub; rw [read_nan a h]; rfl
theorem sub_self_inf (a : Nat) (h : rung a = 9218868437227405312) : double.sub a a = none := by
  unfold Format.sub; rw [read_inf a h]; unfold Datum.opposite Datum.sum; cases sgn a <;> rfl
theorem sub_self_fin (a : Nat) (h : rung a < 9218868437227405312) : double.sub a a = some 0 := by
  unfold Format.sub
  rw [read_fin a h]
  unfold Datum.opposite Datum.sum
  simp only [Int.min_self]
  generalize -1074 + (ex (rung a) : Int) = i
  have e : signed (sgn a) (mant (rung a)) (i - i).toNat + signed (!sgn a) (mant (rung a)) (i - i).toNat = 0 := by
    unfold signed
    cases sgn a <;> simp only [Bool.not_false, Bool.not_true, Bool.false_eq_true, if_false, if_true] <;> omega
  rw [e]
  have e2 : (sgn a && !sgn a) = false := by cases sgn a <;> rfl
  simp only [if_true, e2, Option.map_some]
  rfl
theorem div_self_nan (a : Nat) (h : 9218868437227405312 < rung a) : double.div a a = none := by
  unfold Format.div; rw [read_nan a h]; rfl
theorem div_self_inf (a : Nat) (h : rung a = 9218868437227405312) : double.div a a = none := by
  unfold Format.div; rw [read_inf a h]; rfl
theorem mant_zero (r : Nat) : mant r = 0 ↔ r = 0 := by unfold mant; split <;> omega
theorem div_self_zero (a : Nat) (h : rung a = 0) : double.div a a = none := by
  unfold Format.div
  rw [read_fin a (by omega), (mant_zero _).mpr h]
  unfold Datum.quotient
  rfl
theorem div_self_fin (a : Nat) (h : rung a < 9218868437227405312) (h0 : rung a ≠ 0) : double.div a a = some 4607182418800017408 := by
  unfold Format.div
  rw [read_fin a h]
  unfold Datum.quotient
  have hm : mant (rung a) ≠ 0 := by rw [ne_eq, mant_zero]; exact h0
  simp only [if_neg hm, d_frac, Nat.add_sub_cancel, Nat.shiftLeft_eq, Nat.mul_div_cancel_left _ (Nat.pos_of_ne_zero hm), Nat.mul_mod_right, Option.map_some, Int.sub_self, Bool.xor_self]
  decide
theorem mul_one_nan (a : Nat) (h : 9218868437227405312 < rung a) : double.mul a 4607182418800017408 = none := by
  unfold Format.mul; rw [read_nan a h]; rfl
theorem read_one : double.read 4607182418800017408 = .number false 4503599627370496 (-52) := by decide
theorem mul_one_num (a : Nat) (ha : a < 18446744073709551616) (h : rung a ≤ 9218868437227405312) : double.mul a 4607182418800017408 = some a := by
  unfold Format.mul
  rw [read_one]
  by_cases hf : rung a < 9218868437227405312
  · rw [read_fin a hf]
    unfold Datum.product
    simp only [Bool.xor_false, Option.map_some]
    unfold Format.write
    simp only []
    rw [near_exact (sgn a) (mant (rung a) * 4503599627370496) (-1074 + (ex (rung a) : Int) + -52) (rung a) (ex (rung a)) 52 (by omega) (by omega) (by unfold V; rw [Nat.mul_assoc, Nat.mul_assoc, Nat.mul_comm (2 ^ ex (rung a))])]
    rw [word_of a ha]
  · have hi : rung a = 9218868437227405312 := by omega
    rw [read_inf a hi]
    unfold Datum.product
    simp only [Bool.xor_false]
    unfold Format.write
    rw [if_neg (by decide)]
    simp only [Option.map_some, d_inf]
    rw [← hi, word_of a ha]
end Go.Proofs.Ytejpbhgbafapoaa
