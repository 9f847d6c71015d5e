/-
  Contracts of converting, and of ints.Do and ints.Is: what each gives back, for any numbers.
-/
import Derived.Test.YtjnmcaokcjkagaaWpAr
namespace Go.Proofs.Ytjnmcaokcjkagaa
open Go.RowKit

/-! ### convert -/
theorem conv_else (op : Int) (a : BitVec 64) (h : op < 167 ∨ 167 < op ∧ op < 172 ∨ 173 < op ∧ op < 192 ∨ 196 < op) : 0#64 = convB op a := by
  unfold convB; rw [if_neg (by omega), if_neg (by omega), if_neg (by omega), if_neg (by omega), if_neg (by omega), if_neg (by omega)]

theorem convert_any (op : Int) (a : BitVec 64) (w : World) :
    Calls Try.prog 20 #[.int .i64 op, .int .u64 (U a)] w fun e w' => e = .returned (.int .u64 (U (convB op a))) ∧ w = w' := by
  have r1 := toU
  by_cases c : op = 167 ∨ op = 173 ∨ op = 172 ∨ op = 196 ∨ op = 192 ∨ op = 193 ∨ op = 194 ∨ op = 195
  · rcases c with rfl | rfl | rfl | rfl | rfl | rfl | rfl | rfl
    all_goals
      go_enter Try.func20, Try.ntmps20
      go_wp2_with (first | (go_at_call 12; refine (sign_any _ _ _).mono ?_; rintro e w' ⟨rfl, rfl⟩) | (go_at_call 24; refine (cut_any _ _ (by decide) (by decide) _).mono ?_; rintro e w' ⟨rfl, rfl⟩))
      go_ret
      exact ⟨rfl, rfl⟩
  · have c' : op < 167 ∨ 167 < op ∧ op < 172 ∨ 173 < op ∧ op < 192 ∨ 196 < op := by omega
    rw [← conv_else op a c', show U 0#64 = 0 by rfl]
    clear c r1
    rcases c' with h | ⟨h, g⟩ | ⟨h, g⟩ | h
    all_goals
      go_enter Try.func20, Try.ntmps20
      go_wp2
      go_ret
      exact ⟨rfl, rfl⟩

/-! ### Do -/
def doPost (p : BitVec 64 × Int) (w : World) (e : Ending) (w' : World) : Prop :=
  e = .returned (.tuple #[.int .u64 (U p.1), .int .i64 p.2]) ∧ ∃ k, w' = w.drewN k

theorem do_c32 (op : Int) (a b : BitVec 64) (h0 : 69 ≤ op) (h1 : op ≤ 79) : doB op a b = (tw (cmpAt (op - 69) 32 (cutB a 32) (cutB b 32)), 0) := by
  unfold doB; rw [if_pos ⟨h0, h1⟩]
theorem do_c64 (op : Int) (a b : BitVec 64) (h0 : 80 ≤ op) (h1 : op ≤ 90) : doB op a b = (tw (cmpAt (op - 80) 64 a b), 0) := by
  unfold doB; rw [if_neg (by omega), if_pos ⟨h0, h1⟩]
theorem do_a32 (op : Int) (a b : BitVec 64) (h0 : 103 ≤ op) (h1 : op ≤ 120) : doB op a b = (cutB (arRaw (op - 103) 32 (cutB a 32) (cutB b 32)).1 32, (arRaw (op - 103) 32 (cutB a 32) (cutB b 32)).2) := by
  unfold doB; rw [if_neg (by omega), if_neg (by omega), if_pos ⟨h0, h1⟩]
theorem do_a64 (op : Int) (a b : BitVec 64) (h0 : 121 ≤ op) (h1 : op ≤ 138) : doB op a b = arRaw (op - 121) 64 a b := by
  unfold doB; rw [if_neg (by omega), if_neg (by omega), if_neg (by omega), if_pos ⟨h0, h1⟩]
theorem do_conv (op : Int) (a b : BitVec 64) (h : op < 69 ∨ 90 < op ∧ op < 103 ∨ 138 < op) : doB op a b = (convB op a, 0) := by
  unfold doB; rw [if_neg (by omega), if_neg (by omega), if_neg (by omega), if_neg (by omega)]

theorem do_any (op : Int) (a b : BitVec 64) (w : World) :
    Calls Try.prog 16 #[.int .i64 op, .int .u64 (U a), .int .u64 (U b)] w (doPost (doB op a b) w) := by
  by_cases c : op < 69 ∨ 90 < op ∧ op < 103 ∨ 138 < op
  · rw [do_conv op a b c]
    rcases c with h | ⟨h, g⟩ | h
    all_goals
      go_enter Try.func16, Try.ntmps16
      go_wp2_with (go_at_call 20; refine (convert_any _ _ _).mono ?_; rintro e w' ⟨rfl, rfl⟩)
      go_ret2
      exact ⟨rfl, 0, rfl⟩
  · by_cases c1 : op ≤ 79
    · have h0 : 69 ≤ op := by omega
      rw [do_c32 op a b h0 c1]
      clear c
      go_enter Try.func16, Try.ntmps16
      go_wp2_with (go_at_call 18; refine (compare_any _ _ _ _ (by decide) (by decide) _).mono ?_; rintro e w' ⟨rfl, rfl⟩)
      go_ret2
      exact ⟨rfl, 0, rfl⟩
    · by_cases c2 : op ≤ 90
      · have h0 : 80 ≤ op := by omega
        have E : cmpAt (op - 80) 64 a b = cmpAt (op - 11 - 69) 64 (cutB a 64) (cutB b 64) := by rw [cutB_64, cutB_64]; congr 1; omega
        rw [do_c64 op a b h0 c2, E]
        clear c c1 E
        go_enter Try.func16, Try.ntmps16
        go_wp2_with (go_at_call 18; refine (compare_any _ _ _ _ (by decide) (by decide) _).mono ?_; rintro e w' ⟨rfl, rfl⟩)
        go_ret2
        exact ⟨rfl, 0, rfl⟩
      · by_cases c3 : op ≤ 120
        · have h0 : 103 ≤ op := by omega
          rw [do_a32 op a b h0 c3]
          clear c c1 c2
          go_enter Try.func16, Try.ntmps16
          go_wp2_with (go_at_call 19; refine (compute_any _ _ _ _ (by assumption) (by assumption) (by decide) _).mono ?_; rintro e w' ⟨rfl, k, rfl⟩)
          go_ret2
          exact ⟨rfl, _, rfl⟩
        · have h0 : 121 ≤ op := by omega
          have h1 : op ≤ 138 := by omega
          have E : doB op a b = (cutB (arRaw (op - 18 - 103) 64 (cutB a 64) (cutB b 64)).1 64, (arRaw (op - 18 - 103) 64 (cutB a 64) (cutB b 64)).2) := by
            rw [do_a64 op a b h0 h1, cutB_64, cutB_64, cutB_64, show op - 121 = op - 18 - 103 by omega]
          rw [E]
          clear c c1 c2 c3 E
          go_enter Try.func16, Try.ntmps16
          go_wp2_with (go_at_call 19; refine (compute_any _ _ _ _ (by omega) (by omega) (by decide) _).mono ?_; rintro e w' ⟨rfl, k, rfl⟩)
          go_ret2
          exact ⟨rfl, _, rfl⟩

/-! ### Is -/
theorem ret_bool {b c : Bool} (h : b = c) : Ending.returned (.bool b) = .returned (.bool c) := by rw [h]
theorem is_any (op : Int) (w : World) :
    Calls Try.prog 8 #[.int .i64 op] w fun e w' => e = .returned (.bool (isB op)) ∧ w = w' := by
  by_cases c : 69 ≤ op ∧ op ≤ 90 ∨ 103 ≤ op ∧ op ≤ 138 ∨ op = 167 ∨ op = 172 ∨ op = 173 ∨ 192 ≤ op ∧ op ≤ 196
  · have E : isB op = true := decide_eq_true c
    rw [E]; clear E
    rcases c with ⟨h, g⟩ | ⟨h, g⟩ | rfl | rfl | rfl | ⟨h, g⟩
    case inr.inr.inr.inr.inr =>
      have e1 : (op == 167) = false := by simp; omega
      have e2 : (op == 172) = false := by simp; omega
      have e3 : (op == 173) = false := by simp; omega
      go_enter Try.func8, Try.ntmps8
      go_wp2
      go_ret
      exact ⟨rfl, rfl⟩
    all_goals
      go_enter Try.func8, Try.ntmps8
      go_wp2
      go_ret
      exact ⟨rfl, rfl⟩
  · have E : isB op = false := decide_eq_false c
    have c' : op < 69 ∨ 90 < op ∧ op < 103 ∨ 138 < op ∧ op < 167 ∨ 167 < op ∧ op < 172 ∨ 173 < op ∧ op < 192 ∨ 196 < op := by omega
    have e1 : (op == 167) = false := by simp; omega
    have e2 : (op == 172) = false := by simp; omega
    have e3 : (op == 173) = false := by simp; omega
    rw [E]; clear E c
    rcases c' with h | ⟨h, g⟩ | ⟨h, g⟩ | ⟨h, g⟩ | ⟨h, g⟩ | h
    all_goals
      go_enter Try.func8, Try.ntmps8
      go_wp2
      go_ret
      first | exact ⟨rfl, rfl⟩ | exact ⟨ret_bool (decide_eq_false (by omega)), rfl⟩
end Go.Proofs.Ytjnmcaokcjkagaa
