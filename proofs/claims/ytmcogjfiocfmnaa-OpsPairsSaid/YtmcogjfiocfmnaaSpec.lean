/-
  What chapter 1 fixes, as plain functions on 64-bit words, and what is true of them. Nothing of the program stands here.
-/
import Derived.Test.YtmcogjfiocfmnaaMath
namespace Go.Proofs.Ytmcogjfiocfmnaa
open Go.RowKit

/-- A truth as a word. -/
def tw (b : Bool) : BitVec 64 := if b then 1#64 else 0#64

/-- The comparisons, by their place from 0 (is it nought) to 10 (at least, unsigned). x, y unsigned; X, Y signed. -/
def cmpB (k x y X Y : Int) : Bool :=
  if k = 0 then x == 0 else if k = 1 then x == y else if k = 2 then x != y else if k = 3 then decide (X < Y) else if k = 4 then decide (x < y)
  else if k = 5 then decide (Y < X) else if k = 6 then decide (y < x) else if k = 7 then decide (X ≤ Y) else if k = 8 then decide (x ≤ y)
  else if k = 9 then decide (Y ≤ X) else decide (y ≤ x)

def cmpAt (k n : Int) (x y : BitVec 64) : Bool := cmpB k (U x) (U y) (S (signSpec x n)) (S (signSpec y n))

theorem eq_of_beq_int {a b : Int} (h : (a == b) = true) : a = b := by simpa using h
theorem ne_of_beq_int {a b : Int} (h : (a == b) = false) : a ≠ b := by simpa using h

/-! ### Counting -/
def lenN (a : Nat) : Nat := if a = 0 then 0 else a.log2 + 1
theorem lenN_zero : lenN 0 = 0 := rfl
theorem lenN_pos {a : Nat} (h : a ≠ 0) : 1 ≤ lenN a := by unfold lenN; rw [if_neg h]; omega
theorem lenN_lo {a : Nat} (h : a ≠ 0) : 2 ^ (lenN a - 1) ≤ a := by
  unfold lenN; rw [if_neg h]; exact Nat.log2_self_le h
theorem lenN_hi (a : Nat) : a < 2 ^ lenN a := by
  unfold lenN; by_cases h : a = 0
  · rw [if_pos h, h]; decide
  · rw [if_neg h]; exact Nat.lt_log2_self
theorem lenN_le {a n : Nat} (h : a < 2 ^ n) : lenN a ≤ n := by
  by_cases h0 : a = 0
  · subst h0; exact Nat.zero_le _
  · have h1 := lenN_lo h0
    have h2 : 2 ^ (lenN a - 1) < 2 ^ n := Nat.lt_of_le_of_lt h1 h
    have := (Nat.pow_lt_pow_iff_right (by decide : 1 < 2)).mp h2
    omega
theorem lenN_ge {a n : Nat} (h : 2 ^ n ≤ a) : n + 1 ≤ lenN a := by
  have h1 := lenN_hi a
  have := (Nat.pow_lt_pow_iff_right (by decide : 1 < 2)).mp (Nat.lt_of_le_of_lt h h1)
  omega
theorem lenN_eq {a n : Nat} (h0 : 2 ^ n ≤ a) (h1 : a < 2 ^ (n + 1)) : lenN a = n + 1 :=
  Nat.le_antisymm (lenN_le h1) (lenN_ge h0)
theorem lenN_half {a : Nat} (h : a ≠ 0) : lenN (a / 2) + 1 = lenN a := by
  have hl := lenN_lo h
  have hh := lenN_hi a
  have hp := lenN_pos h
  by_cases h1 : lenN a = 1
  · have : a < 2 := by rw [h1] at hh; exact hh
    have : a / 2 = 0 := by omega
    rw [this, lenN_zero, h1]
  · obtain ⟨m, hm⟩ : ∃ m, lenN a = m + 2 := ⟨lenN a - 2, by omega⟩
    rw [hm] at hl hh ⊢
    have e1 : 2 ^ (m + 2 - 1) = 2 * 2 ^ m := by rw [show m + 2 - 1 = m + 1 by omega, Nat.pow_succ]; omega
    have e2 : 2 ^ (m + 2) = 2 * 2 ^ (m + 1) := by rw [Nat.pow_succ]; omega
    rw [e1] at hl; rw [e2] at hh
    rw [lenN_eq (n := m) (by omega) (by omega)]

def clzB (n : Int) (x : BitVec 64) : BitVec 64 := BitVec.ofNat 64 (n.toNat - lenN x.toNat)
def ctzFrom (x : BitVec 64) (i : Nat) : Nat → Nat
  | 0 => i
  | f + 1 => if U ((x >>> i) &&& 1#64) = 0 then ctzFrom x (i + 1) f else i
def ctzB (n : Int) (x : BitVec 64) : BitVec 64 := BitVec.ofNat 64 (ctzFrom x 0 n.toNat)
def popTo (x : BitVec 64) : Nat → Nat
  | 0 => 0
  | j + 1 => popTo x j + ((x >>> j) &&& 1#64).toNat
def popB (x : BitVec 64) : BitVec 64 := BitVec.ofNat 64 (popTo x 64)

theorem U_ofNat (m : Nat) (h : m ≤ 64) : U (BitVec.ofNat 64 m) = (m : Int) := by
  unfold U; rw [BitVec.toNat_ofNat]; omega
theorem bit_le (y : BitVec 64) : (y &&& 1#64).toNat ≤ 1 := by
  rw [BitVec.toNat_and]; exact Nat.and_le_right
theorem bit_eq (y : BitVec 64) : (y &&& 1#64).toNat = y.toNat % 2 := by
  rw [BitVec.toNat_and]; exact nat_mask1 _
theorem popTo_le (x : BitVec 64) : ∀ j, popTo x j ≤ j
  | 0 => Nat.le_refl _
  | j + 1 => by have := popTo_le x j; have := bit_le (x >>> j); unfold popTo; omega
theorem ctzFrom_le (x : BitVec 64) : ∀ f i, ctzFrom x i f ≤ i + f
  | 0, i => Nat.le_refl _
  | f + 1, i => by
      have := ctzFrom_le x f (i + 1); unfold ctzFrom; split <;> omega
theorem ctzB_U (n : Int) (h0 : 1 ≤ n) (h1 : n ≤ 64) (x : BitVec 64) : U (ctzB n x) = (ctzFrom x 0 n.toNat : Int) :=
  U_ofNat _ (by have := ctzFrom_le x n.toNat 0; omega)
theorem clzB_U (n : Int) (h1 : n ≤ 64) (x : BitVec 64) : U (clzB n x) = ((n.toNat - lenN x.toNat : Nat) : Int) :=
  U_ofNat _ (by omega)
theorem popB_U (x : BitVec 64) : U (popB x) = (popTo x 64 : Int) := U_ofNat _ (popTo_le x 64)
theorem shr_add (x : BitVec 64) (i j : Nat) : (x >>> i) >>> j = x >>> (i + j) := (BitVec.shiftRight_add x i j).symm
theorem popTo_stop (x : BitVec 64) (j : Nat) (h : x >>> j = 0#64) : ∀ m, popTo x (j + m) = popTo x j
  | 0 => rfl
  | m + 1 => by
      have e : x >>> (j + m) = 0#64 := by rw [← shr_add, h]; simp
      show popTo x (j + m) + ((x >>> (j + m)) &&& 1#64).toNat = _
      rw [popTo_stop x j h m, e]; simp
theorem shr_zero_of_lt (x : BitVec 64) (n : Nat) (h : x.toNat < 2 ^ n) : x >>> n = 0#64 := by
  apply BitVec.eq_of_toNat_eq
  rw [BitVec.toNat_ushiftRight, Nat.shiftRight_eq_div_pow]; exact Nat.div_eq_of_lt h
theorem popTo_of_lt (x : BitVec 64) (n : Nat) (hn : n ≤ 64) (h : x.toNat < 2 ^ n) : popTo x 64 = popTo x n := by
  have := popTo_stop x n (shr_zero_of_lt x n h) (64 - n)
  rwa [show n + (64 - n) = 64 by omega] at this
theorem half_lt (y : BitVec 64) (h : U y ≠ 0) : (U (y >>> 1)).toNat < (U y).toNat := by
  unfold U at *; rw [BitVec.toNat_ushiftRight, Nat.shiftRight_eq_div_pow]; omega
theorem half_len (y : BitVec 64) (h : U y ≠ 0) : lenN (y >>> 1).toNat + 1 = lenN y.toNat := by
  rw [BitVec.toNat_ushiftRight, Nat.shiftRight_eq_div_pow]; exact lenN_half (by unfold U at h; omega)

/-! ### Dividing -/
def divB (k n : Int) (x y : BitVec 64) : BitVec 64 × Int :=
  if U y = 0 then (0#64, 2) else
  if k = 0 then (if U x = IntKind.u64.wrap (2 ^ (n.toNat - 1)) ∧ S (signSpec y n) = -1 then (0#64, 3) else (BitVec.ofInt 64 ((S (signSpec x n)).tdiv (S (signSpec y n))), 0)) else
  if k = 1 then (x / y, 0) else
  if k = 2 then (BitVec.ofInt 64 ((S (signSpec x n)).tmod (S (signSpec y n))), 0) else (x % y, 0)

/-- The count by which is shifted. -/
def shN (n : Int) (y : BitVec 64) : Nat := (U y % n).toNat

/-- The computations by their place from 0 (leading zeros) to 17 (turned right), before the result is cut; and the trap. -/
def arRaw (k n : Int) (x y : BitVec 64) : BitVec 64 × Int :=
  if k = 0 then (clzB n x, 0) else if k = 1 then (ctzB n x, 0) else if k = 2 then (popB x, 0)
  else if k = 3 then (x + y, 0) else if k = 4 then (x - y, 0) else if k = 5 then (x * y, 0)
  else if k = 6 ∨ k = 7 ∨ k = 8 ∨ k = 9 then divB (k - 6) n x y
  else if k = 10 then (x &&& y, 0) else if k = 11 then (x ||| y, 0) else if k = 12 then (x ^^^ y, 0)
  else if k = 13 then (x <<< shN n y, 0) else if k = 14 then ((signSpec x n).sshiftRight (shN n y), 0)
  else if k = 15 then (x >>> shN n y, 0)
  else if k = 16 then (x <<< shN n y ||| x >>> (n.toNat - shN n y), 0)
  else (x >>> shN n y ||| x <<< (n.toNat - shN n y), 0)

/-- The conversions. -/
def convB (op : Int) (a : BitVec 64) : BitVec 64 :=
  if op = 167 ∨ op = 173 then cutB a 32 else if op = 172 ∨ op = 196 then signSpec a 32
  else if op = 192 then cutB (signSpec a 8) 32 else if op = 193 then cutB (signSpec a 16) 32
  else if op = 194 then signSpec a 8 else if op = 195 then signSpec a 16 else 0#64

/-- What Do gives for any number of an operation and any two words: the result, and the trap. -/
def doB (op : Int) (a b : BitVec 64) : BitVec 64 × Int :=
  if 69 ≤ op ∧ op ≤ 79 then (tw (cmpAt (op - 69) 32 (cutB a 32) (cutB b 32)), 0)
  else if 80 ≤ op ∧ op ≤ 90 then (tw (cmpAt (op - 80) 64 a b), 0)
  else if 103 ≤ op ∧ op ≤ 120 then (cutB (arRaw (op - 103) 32 (cutB a 32) (cutB b 32)).1 32, (arRaw (op - 103) 32 (cutB a 32) (cutB b 32)).2)
  else if 121 ≤ op ∧ op ≤ 138 then arRaw (op - 121) 64 a b
  else (convB op a, 0)

/-- Whether op is an operation. -/
def isB (op : Int) : Bool := decide (69 ≤ op ∧ op ≤ 90 ∨ 103 ≤ op ∧ op ≤ 138 ∨ op = 167 ∨ op = 172 ∨ op = 173 ∨ 192 ≤ op ∧ op ≤ 196)

/-! ### The walk's own spellings -/
theorem wrap_wrap64 (m : Int) : IntKind.u64.wrap (wrap64 m) = U (BitVec.ofInt 64 m) := by
  rw [← wrapI, IntKind.wrap_u64, IntKind.wrap_u64]; unfold wrap64; omega
theorem wrap_tmod (a b : Int) : IntKind.u64.wrap (a.tmod b) = U (BitVec.ofInt 64 (a.tmod b)) := wrapI _
theorem and1U (x : BitVec 64) : Go.bits .and .u64 (U x) 1 = U (x &&& 1#64) := andU x 1#64
theorem lowU (x : BitVec 64) : Go.bits .and .u64 (U x) 4294967295 = U (cutB x 32) := by rw [cutB_32]; exact andU x 4294967295#64
theorem halfU (x : BitVec 64) : U x / (2 : Int) = U (x >>> 1) := shrU x 1

theorem ediv_U (x y : BitVec 64) : U x / U y = U (x / y) := by rw [← divU]; exact (Int.tdiv_eq_ediv_of_nonneg (U_nonneg x)).symm
theorem emod_U (x y : BitVec 64) : U x % U y = U (x % y) := by rw [← modU]; exact (Int.tmod_eq_emod_of_nonneg (U_nonneg x)).symm

/-! ### Signs -/
theorem sgn_back (x : BitVec 64) (n : Int) (h0 : 1 ≤ n) (h1 : n ≤ 64) : S (signSpec x n) * 2 ^ (64 - n.toNat) = S (x <<< (64 - n.toNat)) := by
  rw [signSpec_in x n h0 h1, ← sarS, show (64 - n).toNat = 64 - n.toNat by omega]
  obtain ⟨k, hk, hk2⟩ : ∃ k, 64 - n.toNat = k ∧ k ≤ 64 := ⟨_, rfl, by omega⟩
  rw [hk]
  have hd : ∃ t : Int, S (x <<< k) = t * 2 ^ k := by
    rw [← toS, ← shlU, IntKind.wrap_u64]
    have e : (18446744073709551616 : Int) = 2 ^ k * 2 ^ (64 - k) := by rw [← Int.pow_add, show k + (64 - k) = 64 by omega]; rfl
    have h1 : ∃ t : Int, U x * 2 ^ k % 18446744073709551616 = t * 2 ^ k := ⟨U x % 2 ^ (64 - k), by
      rw [e, Int.mul_comm (U x), Int.mul_emod_mul_of_pos _ _ (Int.pow_pos (by decide)), Int.mul_comm]⟩
    obtain ⟨t, ht⟩ := h1
    rw [ht]
    have h2 : wrap64 (t * 2 ^ k) = t * 2 ^ k ∨ wrap64 (t * 2 ^ k) = t * 2 ^ k - 18446744073709551616 := by
      rw [← ht]; unfold wrap64; omega
    rcases h2 with h2 | h2
    · exact ⟨t, h2⟩
    · exact ⟨t - 2 ^ (64 - k), by rw [h2, e, Int.sub_mul, Int.mul_comm (2 ^ k)]⟩
  obtain ⟨t, ht⟩ := hd
  rw [ht, Int.mul_ediv_cancel _ (Int.ne_of_gt (Int.pow_pos (by decide)))]
theorem sgn_inj (x y : BitVec 64) (n : Int) (h0 : 1 ≤ n) (h1 : n ≤ 64) (h : S (signSpec x n) = S (signSpec y n)) : cutB x n.toNat = cutB y n.toNat := by
  have a := sgn_back x n h0 h1
  have b := sgn_back y n h0 h1
  rw [h, b] at a
  have := S_inj.mp a
  unfold cutB; rw [this]
theorem sgn_zero (n : Int) (h0 : 1 ≤ n) (h1 : n ≤ 64) : signSpec 0#64 n = 0#64 := by
  rw [signSpec_in _ n h0 h1]; simp
theorem sgn_ne_zero (y : BitVec 64) (n : Int) (h0 : 1 ≤ n) (h1 : n ≤ 64) (hy : y.toNat < 2 ^ n.toNat) (h : U y ≠ 0) : S (signSpec y n) ≠ 0 := by
  intro hs
  apply h
  have e : S (signSpec y n) = S (signSpec 0#64 n) := by rw [sgn_zero n h0 h1, hs]; rfl
  have := sgn_inj y 0#64 n h0 h1 e
  rw [cutB_of_lt y _ (by omega) hy, cutB_zero] at this
  rw [this]; rfl
theorem cut_div (x y : BitVec 64) (n : Nat) (hn : n ≤ 64) (hx : x.toNat < 2 ^ n) : cutB (x / y) n = x / y := by
  apply cutB_of_lt _ _ hn
  rw [BitVec.toNat_udiv]; exact Nat.lt_of_le_of_lt (Nat.div_le_self _ _) hx
theorem cut_mod (x y : BitVec 64) (n : Nat) (hn : n ≤ 64) (hx : x.toNat < 2 ^ n) : cutB (x % y) n = x % y := by
  apply cutB_of_lt _ _ hn
  rw [BitVec.toNat_umod]; exact Nat.lt_of_le_of_lt (Nat.mod_le _ _) hx
theorem cut_small (m n : Nat) (hm : m ≤ 64) (hn : 7 ≤ n) (h : n ≤ 64) : cutB (BitVec.ofNat 64 m) n = BitVec.ofNat 64 m := by
  apply cutB_of_lt _ _ h
  rw [BitVec.toNat_ofNat]
  have : 2 ^ 7 ≤ 2 ^ n := Nat.pow_le_pow_right (by decide) hn
  omega

/-! ### Dividing, a case each -/
theorem div_zero (k n : Int) (x y : BitVec 64) (h : U y = 0) : divB k n x y = (0#64, 2) := by unfold divB; rw [if_pos h]
theorem div_over (n : Int) (x y : BitVec 64) (h : U y ≠ 0) (hx : U x = IntKind.u64.wrap (2 ^ (n.toNat - 1))) (hy : S (signSpec y n) = -1) : divB 0 n x y = (0#64, 3) := by
  unfold divB; rw [if_neg h, if_pos rfl, if_pos ⟨hx, hy⟩]
theorem div_sq (n : Int) (x y : BitVec 64) (h : U y ≠ 0) (hx : ¬ (U x = IntKind.u64.wrap (2 ^ (n.toNat - 1)) ∧ S (signSpec y n) = -1)) :
    divB 0 n x y = (BitVec.ofInt 64 ((S (signSpec x n)).tdiv (S (signSpec y n))), 0) := by
  unfold divB; rw [if_neg h, if_pos rfl, if_neg hx]
theorem div_uq (n : Int) (x y : BitVec 64) (h : U y ≠ 0) : divB 1 n x y = (x / y, 0) := by
  unfold divB; rw [if_neg h, if_neg (by decide), if_pos rfl]
theorem div_sr (n : Int) (x y : BitVec 64) (h : U y ≠ 0) : divB 2 n x y = (BitVec.ofInt 64 ((S (signSpec x n)).tmod (S (signSpec y n))), 0) := by
  unfold divB; rw [if_neg h, if_neg (by decide), if_neg (by decide), if_pos rfl]
theorem div_ur (n : Int) (x y : BitVec 64) (h : U y ≠ 0) : divB 3 n x y = (x % y, 0) := by
  unfold divB; rw [if_neg h, if_neg (by decide), if_neg (by decide), if_neg (by decide)]

end Go.Proofs.Ytmcogjfiocfmnaa
