/-
  What chapter 12 fixes of numbers in bytes, as plain functions. Nothing of the program stands here.
-/
import Derived.Test.YtljhdibnnaepdaaLSpec
import Derived.Laws.CopyOwn
import Derived.Laws.BitsAllLaws
import Derived.Laws.BitsLemmas
namespace Go.Proofs.Ytljhdibnnaepdaa
open Go.RowKit

/-- A number's lowest n bytes, the least one first. -/
def leN : Nat → Nat → List Nat
  | 0, _ => []
  | n + 1, v => v % 256 :: leN n (v / 256)
theorem leN_len : ∀ n v, (leN n v).length = n
  | 0, _ => rfl
  | n + 1, v => by simp [leN, leN_len n]
theorem leN_byte : ∀ n v, ∀ x ∈ leN n v, x < 256
  | 0, _ => by simp [leN]
  | n + 1, v => fun x hx => by
    rcases List.mem_cons.1 hx with rfl | hx
    · omega
    · exact leN_byte n _ x hx
theorem leN_snoc : ∀ n v, leN (n + 1) v = leN n v ++ [v / 256 ^ n % 256]
  | 0, v => by simp [leN]
  | n + 1, v => by
    have e := leN_snoc n (v / 256)
    have e2 : v / 256 / 256 ^ n = v / 256 ^ (n + 1) := by rw [Nat.div_div_eq_div_mul, Nat.pow_succ, Nat.mul_comm]
    rw [e2] at e
    show v % 256 :: leN (n + 1) (v / 256) = v % 256 :: leN n (v / 256) ++ _
    rw [e]; rfl
/-- The number in bytes, the least one first. -/
def valN : List Nat → Nat
  | [] => 0
  | x :: r => x + 256 * valN r
theorem valN_lt : ∀ l : List Nat, (∀ x ∈ l, x < 256) → valN l < 256 ^ l.length
  | [], _ => by simp [valN]
  | x :: r, h => by
    have h1 := valN_lt r fun y hy => h y (List.mem_cons_of_mem _ hy)
    have h2 := h x (List.mem_cons_self ..)
    simp only [valN, List.length_cons, Nat.pow_succ]
    omega
theorem valN_snoc : ∀ (l : List Nat) (x : Nat), valN (l ++ [x]) = valN l + x * 256 ^ l.length
  | [], x => by simp [valN]
  | y :: l, x => by
    simp only [List.cons_append, valN, valN_snoc l x, List.length_cons, Nat.pow_succ]
    rw [Nat.mul_add, ← Nat.mul_assoc, Nat.mul_comm (256 * x), Nat.mul_comm 256 x, Nat.mul_comm _ (x * 256), Nat.mul_assoc x 256, Nat.mul_comm 256 (256 ^ _)]
    omega
theorem pow8 (k : Nat) : (256 : Nat) ^ k = 2 ^ (8 * k) := by rw [Nat.pow_mul]
theorem or_low (V d s : Nat) (hV : V < 2 ^ s) : V ||| (d * 2 ^ s) = V + d * 2 ^ s := by
  rw [Nat.or_comm, Nat.mul_comm, ← Nat.two_pow_add_eq_or_of_lt hV, Nat.add_comm]
/-- A round of reading, the least byte first. -/
theorem or_up (l : List Nat) (hl : ∀ x ∈ l, x < 256) (k : Nat) (h : k < l.length) (hk : k < 8) :
    Go.bits .or .u64 ((valN (l.take k) : Nat) : Int) (IntKind.u64.wrap (((l.getD k 0 : Nat) : Int) * 2 ^ (8 * k))) = ((valN (l.take (k + 1)) : Nat) : Int) := by
  have h1 := valN_lt (l.take k) fun x hx => hl x (List.mem_of_mem_take hx)
  rw [List.length_take, Nat.min_eq_left (Nat.le_of_lt h), pow8] at h1
  have hx : l.getD k 0 < 256 := by
    have e : l.getD k 0 = l[k] := by simp [h]
    rw [e]; exact hl _ (List.getElem_mem h)
  have e1 : valN (l.take (k + 1)) = valN (l.take k) + l.getD k 0 * 2 ^ (8 * k) := by
    rw [take_succ_getD l k h, valN_snoc, List.length_take, Nat.min_eq_left (Nat.le_of_lt h), pow8]
  have e64 : (2 : Nat) ^ 64 = 256 * 2 ^ 56 := by decide
  have hp : (2 : Nat) ^ (8 * k) ≤ 2 ^ 56 := Nat.pow_le_pow_right (by decide) (by omega)
  have h2 : l.getD k 0 * 2 ^ (8 * k) < 2 ^ 64 := by
    have := Nat.mul_le_mul (show l.getD k 0 + 1 ≤ 256 by omega) hp
    have hpos := Nat.two_pow_pos (8 * k)
    rw [Nat.add_mul, Nat.one_mul] at this
    omega
  have e : IntKind.u64.wrap (((l.getD k 0 : Nat) : Int) * 2 ^ (8 * k)) = ((l.getD k 0 * 2 ^ (8 * k) : Nat) : Int) := by
    rw [IntKind.wrap_u64, ← Nat.mod_eq_of_lt h2, Int.natCast_emod (_ * _), Int.natCast_mul, Int.natCast_pow]; rfl
  have h3 : valN (l.take k) < 2 ^ 64 := Nat.lt_of_lt_of_le h1 (Nat.pow_le_pow_right (by decide) (by omega))
  rw [e, bits_or_u64_nat _ _ h3 h2, e1, or_low _ _ _ h1]
/-- A round of reading, the greatest byte first. -/
theorem or_down (x : Nat) (l : List Nat) (hx : x < 256) (hl : ∀ y ∈ l, y < 256) (h : l.length < 8) :
    Go.bits .or .u64 (IntKind.u64.wrap (((valN l : Nat) : Int) * 256)) ((x : Nat) : Int) = ((valN (x :: l) : Nat) : Int) := by
  have h1 := valN_lt l hl
  have hp : (256 : Nat) ^ l.length ≤ 256 ^ 7 := Nat.pow_le_pow_right (by decide) (by omega)
  have e64 : (2 : Nat) ^ 64 = 256 * 256 ^ 7 := by decide
  have h2 : valN l * 2 ^ 8 < 2 ^ 64 := by rw [e64]; generalize (256 : Nat) ^ 7 = z at hp ⊢; generalize (256 : Nat) ^ l.length = y at h1 hp; omega
  have e : IntKind.u64.wrap (((valN l : Nat) : Int) * 256) = ((valN l * 2 ^ 8 : Nat) : Int) := by
    rw [IntKind.wrap_u64, ← Nat.mod_eq_of_lt h2, Int.natCast_emod (_ * _), Int.natCast_mul, Int.natCast_pow]; rfl
  have h3 : x < 2 ^ 64 := Nat.lt_of_lt_of_le hx (by decide)
  rw [e, bits_or_u64_nat _ _ h2 h3, Nat.or_comm, or_low x (valN l) 8 hx]
  simp only [valN]
  congr 1
  omega
/-- A list is laid over in rounds: one more of it. -/
theorem splice_snoc {α : Type} (L : List α) (q : Nat) (ys : List α) (x : α) (h : q + ys.length < L.length) : (splice L q ys).set (q + ys.length) x = splice L q (ys ++ [x]) := by
  unfold splice
  rw [List.set_append_right _ _ (by simp; omega), List.length_take, Nat.min_eq_left (by omega), List.set_append_right _ _ (by omega)]
  have e : q + ys.length - q - ys.length = 0 := by omega
  rw [e, List.append_assoc]
  obtain ⟨k, hk⟩ : ∃ k, q + ys.length = k := ⟨_, rfl⟩
  rw [hk] at h ⊢
  rw [List.drop_eq_getElem_cons h]
  simp only [List.set_cons_zero, List.length_append, List.length_singleton, List.singleton_append]
  rw [← Nat.add_assoc, hk]
theorem splice_nil {α : Type} (L : List α) (q : Nat) : splice L q [] = L := by simp [splice]
end Go.Proofs.Ytljhdibnnaepdaa
