/-
  What LebBack wants: what was written is read as itself, wherever it stands.
-/
import Derived.Test.YtebnlblkjdopaaaLrefS
namespace Go.Proofs.Ytebnlblkjdopaaa
open Go.RowKit

theorem found_row (a l : List Nat) (h : rowB l = true) (h10 : l.length ≤ 10) : lenR (a ++ l) a.length 64 = l.length ∧ found (a ++ l) a.length 64 = l := by
  have e : lenR (a ++ l) a.length 64 = l.length := by
    rw [lenR_in _ _ _ (by decide) (by decide) (by simp), List.drop_left]
    have := cnt_row l [] (mostN 64) h (by show l.length ≤ 10; exact h10)
    rwa [List.append_nil] at this
  refine ⟨e, ?_⟩
  unfold found
  rw [e, Int.toNat_natCast, List.drop_left, List.take_length]
theorem val_top (l : List Nat) (h : l.length = 10) : valU l = valU (l.take 9) + lastN l % 128 * 9223372036854775808 ∧ valU (l.take 9) < 9223372036854775808 := by
  have := val_last (l := l) (by omega)
  rw [h] at this
  exact this
theorem readU_row (a l : List Nat) (h : rowB l = true) (h10 : l.length ≤ 10) (hv : valU l < 18446744073709551616) :
    rU (a ++ l) a.length 64 = .tuple #[.int .u64 (valU l : Int), .int .i64 ((a.length + l.length : Nat) : Int), .bool true] := by
  obtain ⟨h1, h2⟩ := found_row a l h h10
  have hp := rowB_pos h
  have hl : lastN l < 128 := rowB_last h
  have hbad : badU (lastN (found (a ++ l) a.length 64)) (roomN (lenR (a ++ l) a.length 64) 64) = false := by
    rw [h1, h2]
    rcases Nat.lt_or_ge l.length 10 with h9 | h9
    · rw [room_less l.length 64 (by decide) (by decide) hp (by show l.length < 10; exact h9)]
      exact badU_7 _ hl
    · have e10 : l.length = 10 := by omega
      obtain ⟨v1, v2⟩ := val_top l e10
      rw [e10]
      have hx : lastN l < 2 := by omega
      show (lastN l / 2 ^ 1 != 0) = false
      simp; omega
  rw [rU_good (by rw [h1]; omega) hbad, h1, h2, Nat.mod_eq_of_lt hv, Int.natCast_add]
theorem readS_row (a : List Nat) (m : Int) (h0 : -9223372036854775808 ≤ m) (h1 : m ≤ 9223372036854775807) :
    rS (a ++ encS m) a.length 64 = .tuple #[.int .i64 m, .int .i64 ((a.length + (encS m).length : Nat) : Int), .bool true] := by
  have h := encS_row m
  have h10 := encS_len10 m h0 h1
  have hv := encS_val m
  generalize encS m = l at h h10 hv
  obtain ⟨e1, e2⟩ := found_row a l h h10
  have hp := rowB_pos h
  have hl : lastN l < 128 := rowB_last h
  have hbad : badS (lastN (found (a ++ l) a.length 64)) (roomN (lenR (a ++ l) a.length 64) 64) = false := by
    rw [e1, e2]
    rcases Nat.lt_or_ge l.length 10 with h9 | h9
    · rw [room_less l.length 64 (by decide) (by decide) hp (by show l.length < 10; exact h9)]
      exact badS_7 ⟨_, hl⟩
    · have e10 : l.length = 10 := by omega
      obtain ⟨v1, v2⟩ := val_top l e10
      unfold valS at hv
      rw [e10] at hv ⊢
      have hx : lastN l = 0 ∨ lastN l = 127 := by
        split at hv <;> omega
      rcases hx with hx | hx
      · rw [hx]; decide
      · rw [hx]; decide
  rw [rS_good (by rw [e1]; omega) hbad, e1, e2, hv, Int.natCast_add]
  rw [show wrap64 m = m by unfold wrap64; omega]
theorem readU_short (a l : List Nat) (h : rowB l = true) : rU ((a ++ l).take (a.length + l.length - 1)) a.length 64 = .tuple #[.int .u64 0, .int .i64 0, .bool false] := by
  have hp := rowB_pos h
  apply rU_none
  rw [show a.length + l.length - 1 = a.length + (l.length - 1) by omega, List.take_length_add_append]
  rw [lenR_in _ _ _ (by decide) (by decide) (by simp), List.drop_left]
  exact cnt_short l _ h
/-! ### More bytes than need be -/
def padded (l : List Nat) : List Nat := l.set (l.length - 1) (lastN l + 128) ++ [0]
theorem padded_eq (l : List Nat) (h : 0 < l.length) : padded l = l.dropLast ++ (lastN l + 128) :: [0] := by
  unfold padded
  have e : l = l.dropLast ++ [lastN l] := by
    unfold lastN
    rw [List.dropLast_eq_take]
    have := take_succ_getD l (l.length - 1) (by omega)
    rw [← this, show l.length - 1 + 1 = l.length by omega, List.take_length]
  have hd : l.dropLast.length = l.length - 1 := by simp
  generalize lastN l = x at e ⊢
  generalize l.dropLast = d at e hd ⊢
  rw [e, List.length_append, List.length_singleton, Nat.add_sub_cancel, List.set_append_right _ _ (Nat.le_refl _), Nat.sub_self]
  simp
theorem padded_row (l : List Nat) (h : rowB l = true) : rowB (padded l) = true := by
  rw [padded_eq l (rowB_pos h)]
  exact rowB_append h (rowB_one (by decide))
theorem padded_len (l : List Nat) : (padded l).length = l.length + 1 := by unfold padded; simp
theorem padded_byte (l : List Nat) (h : ∀ x ∈ l, x < 256) (hl : lastN l < 128) : ∀ x ∈ padded l, x < 256 := by
  intro x hx
  unfold padded at hx
  rcases List.mem_append.1 hx with hx | hx
  · rcases List.mem_or_eq_of_mem_set hx with h1 | h1
    · exact h x h1
    · omega
  · simp at hx; omega
theorem padded_val (l : List Nat) (h : rowB l = true) : valU (padded l) = valU l := by
  have hp := rowB_pos h
  have hl : lastN l < 128 := rowB_last h
  rw [padded_eq l hp, valU_append]
  have h1 := valU_take l (l.length - 1) (by omega)
  rw [show l.length - 1 + 1 = l.length by omega, List.take_length, ← List.dropLast_eq_take] at h1
  rw [h1]
  have e : lastN l = l.getD (l.length - 1) 0 := rfl
  rw [← e]
  simp only [valU, List.length_dropLast]
  rw [Nat.mul_comm (lastN l % 128)]
  congr 2
  omega
theorem or_last : ∀ k : Fin 128, Go.bits .or .u8 (k.val : Int) 128 = ((k.val + 128 : Nat) : Int) := by decide +kernel
end Go.Proofs.Ytebnlblkjdopaaa
