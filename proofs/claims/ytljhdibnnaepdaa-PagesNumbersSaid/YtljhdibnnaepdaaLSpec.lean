/-
  What chapter 4 fixes, as plain functions on rows of bytes (natural numbers), and what is true of them. Nothing of the program stands here.
-/
import Derived.WalkKit
namespace Go.Proofs.Ytljhdibnnaepdaa
open Go.RowKit

/-! ### Writing -/
/-- A number in groups of seven bits, the least significant first. -/
def encU (n : Nat) : List Nat := if n < 128 then [n] else (n % 128 + 128) :: encU (n / 128)
termination_by n
decreasing_by omega
theorem encU_lo {n : Nat} (h : n < 128) : encU n = [n] := by rw [encU, if_pos h]
theorem encU_hi {n : Nat} (h : ¬ n < 128) : encU n = (n % 128 + 128) :: encU (n / 128) := by rw [encU, if_neg h]
/-- The same in two's complement. -/
def encS (m : Int) : List Nat := if -64 ≤ m ∧ m < 64 then [(m % 128).toNat] else (m % 128 + 128).toNat :: encS (m / 128)
termination_by m.natAbs
decreasing_by omega
theorem encS_lo {m : Int} (h : -64 ≤ m ∧ m < 64) : encS m = [(m % 128).toNat] := by rw [encS, if_pos h]
theorem encS_hi {m : Int} (h : ¬ (-64 ≤ m ∧ m < 64)) : encS m = (m % 128 + 128).toNat :: encS (m / 128) := by rw [encS, if_neg h]

/-- Each but the last bears 0x80. -/
def rowB : List Nat → Bool
  | [] => false
  | [x] => decide (x < 128)
  | x :: y :: r => decide (128 ≤ x) && rowB (y :: r)
theorem rowB_one {x : Nat} (h : x < 128) : rowB [x] = true := by simp [rowB, h]
theorem rowB_cons {x : Nat} {r : List Nat} (h : 128 ≤ x) (hr : rowB r = true) : rowB (x :: r) = true := by
  cases r with
  | nil => simp [rowB] at hr
  | cons y r => simp [rowB, h, hr]
theorem rowB_pos {l : List Nat} (h : rowB l = true) : 0 < l.length := by
  cases l with
  | nil => simp [rowB] at h
  | cons x r => simp
theorem rowB_step {x y : Nat} {r : List Nat} (h : rowB (x :: y :: r) = true) : 128 ≤ x ∧ rowB (y :: r) = true := by simpa [rowB] using h
theorem rowB_at : ∀ (l : List Nat), rowB l = true → ∀ j, j < l.length → (128 ≤ l.getD j 0 ↔ j + 1 < l.length)
  | [], h => by simp [rowB] at h
  | [x], h => by
      intro j hj
      obtain rfl : j = 0 := by simpa using hj
      have : x < 128 := by simpa [rowB] using h
      simp; omega
  | x :: y :: r, h => by
      intro j hj
      obtain ⟨h1, h2⟩ := rowB_step h
      cases j with
      | zero => simp; omega
      | succ j =>
        have := rowB_at (y :: r) h2 j (by simpa using hj)
        simpa using this
theorem rowB_last {l : List Nat} (h : rowB l = true) : l.getD (l.length - 1) 0 < 128 := by
  have hp := rowB_pos h
  have := rowB_at l h (l.length - 1) (by omega)
  omega
theorem rowB_append : ∀ {l : List Nat}, rowB l = true → ∀ {r : List Nat}, rowB r = true → rowB (l.dropLast ++ (l.getD (l.length - 1) 0 + 128) :: r) = true
  | [], h, _, _ => by simp [rowB] at h
  | [x], h, r, hr => rowB_cons (by simp) hr
  | x :: y :: l, h, r, hr => by
      obtain ⟨h1, h2⟩ := rowB_step h
      have := rowB_append h2 hr
      exact rowB_cons h1 (by simpa using this)

theorem encU_row (n : Nat) : rowB (encU n) = true := by
  induction n using Nat.strongRecOn with
  | _ n ih =>
    by_cases h : n < 128
    · rw [encU_lo h]; exact rowB_one h
    · rw [encU_hi h]; exact rowB_cons (by omega) (ih (n / 128) (by omega))
theorem encU_len (k : Nat) : ∀ n : Nat, n < 128 ^ (k + 1) → (encU n).length ≤ k + 1 := by
  induction k with
  | zero => intro n h; rw [encU_lo (by simpa using h)]; simp
  | succ k ih =>
    intro n h
    by_cases h1 : n < 128
    · rw [encU_lo h1]; simp
    · rw [encU_hi h1]
      have := ih (n / 128) (by rw [Nat.pow_succ] at h; omega)
      simpa using this
theorem encU_len10 (n : Nat) (h : n < 18446744073709551616) : (encU n).length ≤ 10 := encU_len 9 n (by omega)
theorem encU_bytes (n : Nat) : ∀ x ∈ encU n, x < 256 := by
  induction n using Nat.strongRecOn with
  | _ n ih =>
    by_cases h : n < 128
    · rw [encU_lo h]; intro x hx; simp at hx; omega
    · rw [encU_hi h]; intro x hx
      rcases List.mem_cons.1 hx with rfl | hx
      · omega
      · exact ih (n / 128) (by omega) x hx

theorem encS_ind {p : Int → Prop} (h0 : ∀ m, -64 ≤ m ∧ m < 64 → p m) (h1 : ∀ m, ¬ (-64 ≤ m ∧ m < 64) → p (m / 128) → p m) (m : Int) : p m := by
  obtain ⟨k, hk⟩ : ∃ k : Nat, k = m.natAbs := ⟨_, rfl⟩
  induction k using Nat.strongRecOn generalizing m with
  | _ k ih =>
    by_cases h : -64 ≤ m ∧ m < 64
    · exact h0 m h
    · exact h1 m h (ih _ (by omega) (m / 128) rfl)
theorem encS_row (m : Int) : rowB (encS m) = true := by
  refine encS_ind (p := fun m => rowB (encS m) = true) ?_ ?_ m
  · intro m h; rw [encS_lo h]; exact rowB_one (by omega)
  · intro m h ih; rw [encS_hi h]; exact rowB_cons (by omega) ih
theorem encS_bytes (m : Int) : ∀ x ∈ encS m, x < 256 := by
  refine encS_ind (p := fun m => ∀ x ∈ encS m, x < 256) ?_ ?_ m
  · intro m h; rw [encS_lo h]; intro x hx; simp at hx; omega
  · intro m h ih; rw [encS_hi h]; intro x hx
    rcases List.mem_cons.1 hx with rfl | hx
    · omega
    · exact ih x hx
theorem encS_len (k : Nat) : ∀ m : Int, -(64 * 128 ^ k : Nat) ≤ m → m < (64 * 128 ^ k : Nat) → (encS m).length ≤ k + 1 := by
  induction k with
  | zero => intro m h g; rw [encS_lo (by simp at h g; omega)]; simp
  | succ k ih =>
    intro m h g
    by_cases h1 : -64 ≤ m ∧ m < 64
    · rw [encS_lo h1]; simp
    · rw [encS_hi h1]
      have e : 64 * 128 ^ (k + 1) = 128 * (64 * 128 ^ k) := by rw [Nat.pow_succ]; omega
      rw [e] at h g
      have := ih (m / 128) (by omega) (by omega)
      simpa using this
theorem encS_len10 (m : Int) (h : -9223372036854775808 ≤ m) (g : m ≤ 9223372036854775807) : (encS m).length ≤ 10 := encS_len 9 m (by omega) (by omega)

/-! ### The value -/
def valU : List Nat → Nat
  | [] => 0
  | x :: r => x % 128 + 128 * valU r
theorem valU_lt : ∀ l : List Nat, valU l < 128 ^ l.length
  | [] => by simp [valU]
  | x :: r => by
      have := valU_lt r
      simp only [valU, List.length_cons, Nat.pow_succ]
      omega
theorem valU_append : ∀ (l r : List Nat), valU (l ++ r) = valU l + 128 ^ l.length * valU r
  | [], r => by simp [valU]
  | x :: l, r => by
      simp only [List.cons_append, valU, List.length_cons, valU_append l r, Nat.pow_succ]
      rw [Nat.mul_add, ← Nat.mul_assoc, Nat.mul_comm 128 (128 ^ l.length)]; omega
theorem take_succ_getD (l : List Nat) (k : Nat) (h : k < l.length) : l.take (k + 1) = l.take k ++ [l.getD k 0] := by
  rw [List.take_succ_eq_append_getElem h]; simp [h]
theorem valU_take (l : List Nat) (k : Nat) (h : k < l.length) : valU (l.take (k + 1)) = valU (l.take k) + l.getD k 0 % 128 * 128 ^ k := by
  rw [take_succ_getD l k h, valU_append, List.length_take, Nat.min_eq_left (by omega)]
  simp [valU, Nat.mul_comm]
theorem encU_val (n : Nat) : valU (encU n) = n := by
  induction n using Nat.strongRecOn with
  | _ n ih =>
    by_cases h : n < 128
    · rw [encU_lo h]; simp [valU]; omega
    · rw [encU_hi h]; simp only [valU]; rw [ih (n / 128) (by omega)]; omega
/-- The last byte. -/
def lastN (l : List Nat) : Nat := l.getD (l.length - 1) 0
/-- The value in two's complement: the bit 0x40 of the last byte is the sign. -/
def valS (l : List Nat) : Int := if 64 ≤ lastN l % 128 then (valU l : Int) - (128 ^ l.length : Nat) else valU l
theorem lastN_cons {x : Nat} {r : List Nat} (h : 0 < r.length) : lastN (x :: r) = lastN r := by
  unfold lastN
  obtain ⟨k, hk⟩ : ∃ k, r.length = k + 1 := ⟨r.length - 1, by omega⟩
  simp [hk]
theorem encS_val (m : Int) : valS (encS m) = m := by
  refine encS_ind (p := fun m => valS (encS m) = m) ?_ ?_ m
  · intro m h
    rw [encS_lo h]
    simp only [valS, lastN, valU, List.length_cons, List.length_nil, Nat.zero_add, Nat.sub_self, List.getD_cons_zero, Nat.pow_one]
    split <;> omega
  · intro m h ih
    rw [encS_hi h]
    have hp := rowB_pos (encS_row (m / 128))
    unfold valS at ih ⊢
    rw [lastN_cons hp]
    simp only [valU, List.length_cons, Nat.pow_succ]
    split at ih
    · rw [if_pos (by assumption)]; omega
    · rw [if_neg (by assumption)]; omega

/-! ### Reading -/
/-- How many bytes the number has, of at most so many; 0: it doesn't end. -/
def cnt : List Nat → Nat → Nat
  | [], _ => 0
  | _ :: _, 0 => 0
  | x :: r, m + 1 => if x < 128 then 1 else if cnt r m = 0 then 0 else cnt r m + 1
theorem cnt_hit : ∀ (l : List Nat) (m k : Nat), k < m → k < l.length → l.getD k 0 < 128 → (∀ j, j < k → 128 ≤ l.getD j 0) → cnt l m = k + 1
  | [], m, k => by intro _ h; simp at h
  | x :: r, 0, k => by intro h; omega
  | x :: r, m + 1, 0 => by
      intro _ _ h _
      have : x < 128 := by simpa using h
      simp [cnt, this]
  | x :: r, m + 1, k + 1 => by
      intro h1 h2 h3 h4
      have h0 := h4 0 (by omega)
      have : ¬ x < 128 := by simp at h0; omega
      have := cnt_hit r m k (by omega) (by simpa using h2) (by simpa using h3) (fun j hj => by simpa using h4 (j + 1) (by omega))
      simp [cnt, *]
theorem cnt_none : ∀ (l : List Nat) (m : Nat), (∀ j, j < m → j < l.length → 128 ≤ l.getD j 0) → cnt l m = 0
  | [], m => by intro _; simp [cnt]
  | x :: r, 0 => by intro _; simp [cnt]
  | x :: r, m + 1 => by
      intro h
      have h0 := h 0 (by omega) (by simp)
      have : ¬ x < 128 := by simp at h0; omega
      have := cnt_none r m (fun j h1 h2 => by simpa using h (j + 1) (by omega) (by simpa using h2))
      simp [cnt, *]
theorem cnt_le : ∀ (l : List Nat) (m : Nat), cnt l m ≤ m ∧ cnt l m ≤ l.length
  | [], m => by simp [cnt]
  | x :: r, 0 => by simp [cnt]
  | x :: r, m + 1 => by
      have := cnt_le r m
      unfold cnt
      split
      · simp
      · split
        · simp
        · simp; omega
theorem cnt_at : ∀ (l : List Nat) (m : Nat), 0 < cnt l m → l.getD (cnt l m - 1) 0 < 128
  | [], m => by simp [cnt]
  | x :: r, 0 => by simp [cnt]
  | x :: r, m + 1 => by
      intro h
      unfold cnt at h ⊢
      split
      · simp; assumption
      · split
        · rename_i h1 h2; simp [h1, h2] at h
        · rename_i h1 h2
          have := cnt_at r m (by omega)
          obtain ⟨k, hk⟩ : ∃ k, cnt r m = k + 1 := ⟨cnt r m - 1, by omega⟩
          rw [hk] at this ⊢
          simpa using this
theorem cnt_row (l r : List Nat) (m : Nat) (h : rowB l = true) (hm : l.length ≤ m) : cnt (l ++ r) m = l.length := by
  have hp := rowB_pos h
  have hl := rowB_last h
  have e : ∀ j, j < l.length → (l ++ r).getD j 0 = l.getD j 0 := fun j hj => by simp [List.getD, List.getElem?_append, hj]
  have := cnt_hit (l ++ r) m (l.length - 1) (by omega) (by simp; omega) (by rw [e _ (by omega)]; exact hl) (fun j hj => by
    rw [e _ (by omega)]
    have := rowB_at l h j (by omega)
    omega)
  omega
theorem cnt_short (l : List Nat) (m : Nat) (h : rowB l = true) : cnt (l.take (l.length - 1)) m = 0 := by
  refine cnt_none _ _ (fun j _ hj => ?_)
  have hj' : j < l.length - 1 := by simp at hj; omega
  have e : (l.take (l.length - 1)).getD j 0 = l.getD j 0 := by rw [List.getD_eq_getElem?_getD, List.getElem?_take, if_pos hj', ← List.getD_eq_getElem?_getD]
  rw [e]
  exact (rowB_at l h j (by omega)).2 (by omega)

/-- At most so many bytes. -/
def mostN (bits : Int) : Nat := ((bits + 6) / 7).toNat
/-- How many bits the byte number c may hold. -/
def roomN (c : Nat) (bits : Int) : Nat := min 7 (bits.toNat - 7 * (c - 1))
theorem mostN_bits (bits : Int) (h0 : 1 ≤ bits) (h1 : bits ≤ 64) : 1 ≤ mostN bits ∧ mostN bits ≤ 10 ∧ 7 * ((mostN bits : Int) - 1) < bits ∧ bits ≤ 7 * mostN bits := by unfold mostN; omega
/-- The number's bytes: how many; 0: there is none. -/
def lenR (l : List Nat) (p bits : Int) : Nat := if bits < 1 ∨ 64 < bits ∨ p < 0 ∨ (l.length : Int) < p then 0 else cnt (l.drop p.toNat) (mostN bits)
/-- Bits 0 to 6 of the last byte, signed. -/
def sg7 (x : Nat) : Int := if 64 ≤ x then (x : Int) - 128 else x
def badS (x r : Nat) : Bool := sg7 x / 2 ^ (r - 1) != 0 && sg7 x / 2 ^ (r - 1) != -1
def badU (x r : Nat) : Bool := x / 2 ^ r != 0
/-- The bytes that were found. -/
def found (l : List Nat) (p bits : Int) : List Nat := (l.drop p.toNat).take (lenR l p bits)
def okU (l : List Nat) (p bits : Int) : Bool := lenR l p bits != 0 && !badU (lastN (found l p bits)) (roomN (lenR l p bits) bits)
def okS (l : List Nat) (p bits : Int) : Bool := lenR l p bits != 0 && !badS (lastN (found l p bits)) (roomN (lenR l p bits) bits)
def numU (l : List Nat) (p bits : Int) : Int := if okU l p bits then ((valU (found l p bits) % 18446744073709551616 : Nat) : Int) else 0
def numS (l : List Nat) (p bits : Int) : Int := if okS l p bits then wrap64 (valS (found l p bits)) else 0
def endU (l : List Nat) (p bits : Int) : Int := if okU l p bits then p + lenR l p bits else 0
def endS (l : List Nat) (p bits : Int) : Int := if okS l p bits then p + lenR l p bits else 0
theorem lenR_in (l : List Nat) (k : Nat) (bits : Int) (h0 : 1 ≤ bits) (h1 : bits ≤ 64) (hk : k ≤ l.length) : lenR l k bits = cnt (l.drop k) (mostN bits) := by
  unfold lenR; rw [if_neg (by omega)]; simp
theorem lenR_out (l : List Nat) (p bits : Int) (h : bits < 1 ∨ 64 < bits ∨ p < 0 ∨ (l.length : Int) < p) : lenR l p bits = 0 := by
  unfold lenR; rw [if_pos h]
theorem lenR_ways (l : List Nat) (p bits : Int) : lenR l p bits = 0 ∨ ∃ k : Nat, p = k ∧ 1 ≤ bits ∧ bits ≤ 64 ∧ 1 ≤ lenR l p bits ∧ lenR l p bits ≤ mostN bits ∧ k + lenR l p bits ≤ l.length ∧ l.getD (k + lenR l p bits - 1) 0 < 128 := by
  by_cases h : bits < 1 ∨ 64 < bits ∨ p < 0 ∨ (l.length : Int) < p
  · exact .inl (lenR_out l p bits h)
  · obtain ⟨k, rfl⟩ : ∃ k : Nat, p = k := ⟨p.toNat, by omega⟩
    rw [lenR_in l k bits (by omega) (by omega) (by omega)]
    have h1 := cnt_le (l.drop k) (mostN bits)
    have h2 := cnt_at (l.drop k) (mostN bits)
    rw [List.length_drop] at h1
    rcases Nat.eq_zero_or_pos (cnt (l.drop k) (mostN bits)) with h0 | h0
    · exact .inl h0
    · refine .inr ⟨k, rfl, by omega, by omega, h0, h1.1, by omega, ?_⟩
      have := h2 h0
      rw [List.getD_eq_getElem?_getD, List.getElem?_drop, ← List.getD_eq_getElem?_getD] at this
      rwa [Nat.add_sub_assoc h0]
theorem found_len (l : List Nat) (k : Nat) (bits : Int) (h : k + lenR l k bits ≤ l.length) : (found l k bits).length = lenR l k bits := by
  unfold found; simp; omega
theorem found_getD (l : List Nat) (k : Nat) (bits : Int) (j : Nat) (hj : j < lenR l k bits) : (found l k bits).getD j 0 = l.getD (k + j) 0 := by
  unfold found; simp [List.getD, hj]
theorem found_last (l : List Nat) (k : Nat) (bits : Int) (h0 : 1 ≤ lenR l k bits) (h : k + lenR l k bits ≤ l.length) : lastN (found l k bits) = l.getD (k + lenR l k bits - 1) 0 := by
  unfold lastN
  rw [found_len l k bits h, found_getD l k bits _ (by omega), Nat.add_sub_assoc h0]
end Go.Proofs.Ytljhdibnnaepdaa
