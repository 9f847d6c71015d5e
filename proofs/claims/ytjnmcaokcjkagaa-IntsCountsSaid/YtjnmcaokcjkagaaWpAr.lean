/-
  Contracts of dividing and computing: what each gives back, for any numbers.
-/
import Derived.Test.YtjnmcaokcjkagaaWp
namespace Go.Proofs.Ytjnmcaokcjkagaa
open Go.RowKit

theorem divide_any (op n : Int) (x y : BitVec 64) (hop : op = 109 ∨ op = 110 ∨ op = 111 ∨ op = 112) (h0 : 1 ≤ n) (h1 : n ≤ 64) (hx : x.toNat < 2 ^ n.toNat) (hy : y.toNat < 2 ^ n.toNat) (w : World) :
    Calls Try.prog 27 #[.int .i64 op, .int .i64 n, .int .u64 (U x), .int .u64 (U y)] w fun e w' => e = .returned (.tuple #[.int .u64 (U (cutB (divB (op - 109) n x y).1 n.toNat)), .int .i64 (divB (op - 109) n x y).2]) ∧ w = w' := by
  have HX := Lib.hid hx
  have HY := Lib.hid hy
  clear hx hy
  by_cases hz : U y = 0
  · rw [div_zero _ _ _ _ hz, cutB_zero]
    have hz2 : (U y == 0) = true := by simp [hz]
    clear hz
    go_enter Try.func27, Try.ntmps27
    go_wp2
    go_ret2
    exact ⟨rfl, rfl⟩
  · have hz2 : (U y == 0) = false := by simp [hz]
    have HZ := Lib.hid hz
    clear hz
    rcases hop with rfl | rfl | rfl | rfl
    · by_cases hm : U x = IntKind.u64.wrap (2 ^ (n.toNat - 1))
      · by_cases hs : S (signSpec y n) = -1
        · rw [show (109 - 109 : Int) = 0 by decide, div_over n x y HZ.out hm hs, cutB_zero]
          have hm2 : (U x == IntKind.u64.wrap (2 ^ (n.toNat - 1))) = true := by simp [hm]
          have hs2 : (S (signSpec y n) == -1) = true := by simp [hs]
          clear hm hs
          go_enter Try.func27, Try.ntmps27
          go_wp2_with (go_at_call 12; refine (sign_any _ _ _).mono ?_; rintro e w' ⟨rfl, rfl⟩)
          go_ret2
          exact ⟨rfl, rfl⟩
        · rw [show (109 - 109 : Int) = 0 by decide, div_sq n x y HZ.out (fun h => hs h.2)]
          have hm2 : (U x == IntKind.u64.wrap (2 ^ (n.toNat - 1))) = true := by simp [hm]
          have hs2 : (S (signSpec y n) == -1) = false := by simp [hs]
          have hs3 : S (signSpec y n) ≠ 0 := sgn_ne_zero y n h0 h1 HY.out HZ.out
          have r1 := wrap_wrap64
          clear hm hs
          go_enter Try.func27, Try.ntmps27
          go_wp2_with (first | (go_at_call 12; refine (sign_any _ _ _).mono ?_; rintro e w' ⟨rfl, rfl⟩) | (go_at_call 24; refine (cut_any _ _ (by assumption) (by assumption) _).mono ?_; rintro e w' ⟨rfl, rfl⟩))
          go_ret2
          exact ⟨rfl, rfl⟩
      · rw [show (109 - 109 : Int) = 0 by decide, div_sq n x y HZ.out (fun h => hm h.1)]
        have hm2 : (U x == IntKind.u64.wrap (2 ^ (n.toNat - 1))) = false := by simp [hm]
        have hs3 : S (signSpec y n) ≠ 0 := sgn_ne_zero y n h0 h1 HY.out HZ.out
        have r1 := wrap_wrap64
        clear hm
        go_enter Try.func27, Try.ntmps27
        go_wp2_with (first | (go_at_call 12; refine (sign_any _ _ _).mono ?_; rintro e w' ⟨rfl, rfl⟩) | (go_at_call 24; refine (cut_any _ _ (by assumption) (by assumption) _).mono ?_; rintro e w' ⟨rfl, rfl⟩))
        go_ret2
        exact ⟨rfl, rfl⟩
    · rw [show (110 - 109 : Int) = 1 by decide, div_uq n x y HZ.out, cut_div x y _ (by omega) HX.out]
      have hz3 : U y ≠ 0 := HZ.out
      have r1 := divU
      have r2 := ediv_U
      have r3 := wrapU
      go_enter Try.func27, Try.ntmps27
      go_wp2_with (go_at_call 12; refine (sign_any _ _ _).mono ?_; rintro e w' ⟨rfl, rfl⟩)
      go_ret2
      exact ⟨rfl, rfl⟩
    · rw [show (111 - 109 : Int) = 2 by decide, div_sr n x y HZ.out]
      have hs3 : S (signSpec y n) ≠ 0 := sgn_ne_zero y n h0 h1 HY.out HZ.out
      have r1 := wrap_tmod
      have r2 := wrap_wrap64
      go_enter Try.func27, Try.ntmps27
      go_wp2_with (first | (go_at_call 12; refine (sign_any _ _ _).mono ?_; rintro e w' ⟨rfl, rfl⟩) | (go_at_call 24; refine (cut_any _ _ (by assumption) (by assumption) _).mono ?_; rintro e w' ⟨rfl, rfl⟩))
      go_ret2
      exact ⟨rfl, rfl⟩
    · rw [show (112 - 109 : Int) = 3 by decide, div_ur n x y HZ.out, cut_mod x y _ (by omega) HX.out]
      have hz3 : U y ≠ 0 := HZ.out
      have r1 := modU
      have r2 := emod_U
      go_enter Try.func27, Try.ntmps27
      go_wp2_with (go_at_call 12; refine (sign_any _ _ _).mono ?_; rintro e w' ⟨rfl, rfl⟩)
      go_ret2
      exact ⟨rfl, rfl⟩

theorem cut_counts (k n : Int) (x y : BitVec 64) (hk : k = 0 ∨ k = 1 ∨ k = 2) (hn : n = 32 ∨ n = 64) : (arRaw k n x x).1 = cutB (arRaw k n x y).1 n.toNat := by
  have h7 : 7 ≤ n.toNat ∧ n.toNat ≤ 64 := by omega
  rcases hk with rfl | rfl | rfl
  · exact (cut_small _ _ (by omega) h7.1 h7.2).symm
  · exact (cut_small _ _ (by have := ctzFrom_le x n.toNat 0; omega) h7.1 h7.2).symm
  · exact (cut_small _ _ (popTo_le x 64) h7.1 h7.2).symm

theorem counts_tr (k n : Int) (x y : BitVec 64) (hk : k = 0 ∨ k = 1 ∨ k = 2) : (0 : Int) = (arRaw k n x y).2 := by
  rcases hk with rfl | rfl | rfl <;> rfl
theorem ret_two' {x y : BitVec 64} {s t : Int} (h : x = y) (g : s = t) :
    Ending.returned (.tuple #[.int .u64 (U x), .int .i64 s]) = .returned (.tuple #[.int .u64 (U y), .int .i64 t]) := by rw [h, g]

def computePost (op n : Int) (a b : BitVec 64) (w : World) (e : Ending) (w' : World) : Prop :=
  e = .returned (.tuple #[.int .u64 (U (cutB (arRaw (op - 103) n (cutB a n.toNat) (cutB b n.toNat)).1 n.toNat)), .int .i64 (arRaw (op - 103) n (cutB a n.toNat) (cutB b n.toNat)).2]) ∧ ∃ k, w' = w.drewN k

theorem compute_count (op n : Int) (a b : BitVec 64) (hop : op = 103 ∨ op = 104 ∨ op = 105) (hn : n = 32 ∨ n = 64) (w : World) :
    Calls Try.prog 19 #[.int .i64 op, .int .i64 n, .int .u64 (U a), .int .u64 (U b)] w (computePost op n a b w) := by
  have h0 : 1 ≤ n := by omega
  have h1 : n ≤ 64 := by omega
  have HN := Lib.hid hn
  have HC := Lib.hid (fun x y => cut_counts (op - 103) n x y (by omega) hn)
  have HT := Lib.hid (fun x y => counts_tr (op - 103) n x y (by omega))
  have HL := Lib.hid (cutB_lt a n.toNat (by omega))
  clear hn
  rcases hop with rfl | rfl | rfl
  all_goals
    go_enter Try.func19, Try.ntmps19
    go_wp2_with (first | (go_at_call 24; refine (cut_any _ _ (by assumption) (by assumption) _).mono ?_; rintro e w' ⟨rfl, rfl⟩) | (go_at_call 26; refine (count_any _ _ _ (by decide) (by assumption) (by assumption) HL.out _).mono ?_; rintro e w' ⟨rfl, rfl⟩))
    go_ret2
    exact ⟨ret_two' (HC.out _ _) (HT.out _ _), 0, rfl⟩

theorem compute_divide (op n : Int) (a b : BitVec 64) (hop : op = 109 ∨ op = 110 ∨ op = 111 ∨ op = 112) (hn : n = 32 ∨ n = 64) (w : World) :
    Calls Try.prog 19 #[.int .i64 op, .int .i64 n, .int .u64 (U a), .int .u64 (U b)] w (computePost op n a b w) := by
  have h0 : 1 ≤ n := by omega
  have h1 : n ≤ 64 := by omega
  have HL := Lib.hid (cutB_lt a n.toNat (by omega))
  have HM := Lib.hid (cutB_lt b n.toNat (by omega))
  clear hn
  rcases hop with rfl | rfl | rfl | rfl
  all_goals
    go_enter Try.func19, Try.ntmps19
    go_wp2_with (first | (go_at_call 24; refine (cut_any _ _ (by assumption) (by assumption) _).mono ?_; rintro e w' ⟨rfl, rfl⟩) | (go_at_call 27; refine (divide_any _ _ _ _ (by decide) (by assumption) (by assumption) HL.out HM.out _).mono ?_; rintro e w' ⟨rfl, rfl⟩))
    go_ret2
    exact ⟨rfl, 0, rfl⟩

theorem combine_tr (k n : Int) (x y : BitVec 64) (hk : k = 3 ∨ k = 4 ∨ k = 5 ∨ k = 10 ∨ k = 11 ∨ k = 12) : (0 : Int) = (arRaw k n x y).2 := by
  rcases hk with rfl | rfl | rfl | rfl | rfl | rfl <;> rfl

theorem compute_combine (op n : Int) (a b : BitVec 64) (hop : op = 106 ∨ op = 107 ∨ op = 108 ∨ op = 113 ∨ op = 114 ∨ op = 115) (hn : n = 32 ∨ n = 64) (w : World) :
    Calls Try.prog 19 #[.int .i64 op, .int .i64 n, .int .u64 (U a), .int .u64 (U b)] w (computePost op n a b w) := by
  have h0 : 1 ≤ n := by omega
  have h1 : n ≤ 64 := by omega
  have HT := Lib.hid (fun x y => combine_tr (op - 103) n x y (by omega))
  clear hn
  rcases hop with rfl | rfl | rfl | rfl | rfl | rfl
  all_goals
    go_enter Try.func19, Try.ntmps19
    go_wp2_with (first | (go_at_call 24; refine (cut_any _ _ (by assumption) (by assumption) _).mono ?_; rintro e w' ⟨rfl, rfl⟩) | (go_at_call 28; refine (combine_any _ _ _ n (by decide) _).mono ?_; rintro e w' ⟨rfl, rfl⟩))
    go_ret2
    exact ⟨ret_two' rfl (HT.out _ _), 0, rfl⟩

theorem shift_tr (k n : Int) (x y : BitVec 64) (hk : k = 13 ∨ k = 14 ∨ k = 15 ∨ k = 16 ∨ k = 17) : (0 : Int) = (arRaw k n x y).2 := by
  rcases hk with rfl | rfl | rfl | rfl | rfl <;> rfl

theorem compute_shift (op n : Int) (a b : BitVec 64) (hop : op = 116 ∨ op = 117 ∨ op = 118 ∨ op = 119 ∨ op = 120) (hn : n = 32 ∨ n = 64) (w : World) :
    Calls Try.prog 19 #[.int .i64 op, .int .i64 n, .int .u64 (U a), .int .u64 (U b)] w (computePost op n a b w) := by
  have HT := Lib.hid (fun x y => shift_tr (op - 103) n x y (by omega))
  have HO := Lib.hid hop
  have hlo : 116 ≤ op := by omega
  have hhi : op ≤ 120 := by omega
  have hb := U_nonneg (cutB b 32)
  have hb2 := U_nonneg (cutB b 64)
  clear hop
  rcases hn with rfl | rfl
  all_goals
    go_enter Try.func19, Try.ntmps19
    go_wp2_with (first | (go_at_call 24; refine (cut_any _ _ (by decide) (by decide) _).mono ?_; rintro e w' ⟨rfl, rfl⟩) | (go_at_call 29; refine (shift_any _ _ _ _ _ HO.out rfl (by omega) (by omega) (by decide) _).mono ?_; rintro e w' ⟨rfl, k, rfl⟩))
    go_ret2
    exact ⟨ret_two' rfl (HT.out _ _), _, rfl⟩

theorem compute_any (op n : Int) (a b : BitVec 64) (hlo : 103 ≤ op) (hhi : op ≤ 120) (hn : n = 32 ∨ n = 64) (w : World) :
    Calls Try.prog 19 #[.int .i64 op, .int .i64 n, .int .u64 (U a), .int .u64 (U b)] w (computePost op n a b w) := by
  by_cases c1 : op = 103 ∨ op = 104 ∨ op = 105
  · exact compute_count op n a b c1 hn w
  · by_cases c2 : op = 109 ∨ op = 110 ∨ op = 111 ∨ op = 112
    · exact compute_divide op n a b c2 hn w
    · by_cases c3 : op = 106 ∨ op = 107 ∨ op = 108 ∨ op = 113 ∨ op = 114 ∨ op = 115
      · exact compute_combine op n a b c3 hn w
      · exact compute_shift op n a b (by omega) hn w
end Go.Proofs.Ytjnmcaokcjkagaa
