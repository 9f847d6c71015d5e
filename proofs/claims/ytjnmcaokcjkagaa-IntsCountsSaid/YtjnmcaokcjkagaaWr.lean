/-
  Contracts of the functions of the document's answer that its Do is made of: what each gives back, for any words.
-/
import Derived.Test.YtjnmcaokcjkagaaWp
namespace Go.Proofs.Ytjnmcaokcjkagaa
open Go.RowKit

/-! ### compare -/
theorem rcmp_at (k j x y X Y : Int) (h : (k == j) = true) : cmpB (k + 1) x y X Y = cmpB (j + 1) x y X Y := by
  rw [eq_of_beq_int h]
theorem rcmp_last (k x y X Y : Int) (hk : 0 ≤ k) (h1 : (k == 0) = false) (h2 : (k == 1) = false) (h3 : (k == 2) = false) (h4 : (k == 3) = false) (h5 : (k == 4) = false) (h6 : (k == 5) = false) (h7 : (k == 6) = false) (h8 : (k == 7) = false) (h9 : (k == 8) = false) :
    decide (y ≤ x) = cmpB (k + 1) x y X Y := by
  have := ne_of_beq_int h1; have := ne_of_beq_int h2; have := ne_of_beq_int h3; have := ne_of_beq_int h4
  have := ne_of_beq_int h5; have := ne_of_beq_int h6; have := ne_of_beq_int h7; have := ne_of_beq_int h8; have := ne_of_beq_int h9
  unfold cmpB
  rw [if_neg (by omega), if_neg (by omega), if_neg (by omega), if_neg (by omega), if_neg (by omega), if_neg (by omega), if_neg (by omega), if_neg (by omega), if_neg (by omega), if_neg (by omega)]

theorem rcompare_any (k n : Int) (a b : BitVec 64) (hk : 0 ≤ k) (w : World) :
    Calls Try.prog 22 #[.int .i64 k, .int .u64 (U a), .int .u64 (U b), .int .i64 n] w fun e w' => e = .returned (.int .u64 (U (tw (cmpAt (k + 1) n a b)))) ∧ w = w' := by
  unfold cmpAt
  go_enter Try.func22, Try.ntmps22
  go_wp2_with (first | (go_at_call 13; refine (rsign_any _ _ _).mono ?_; rintro e w' ⟨rfl, rfl⟩) | (go_at_call 21; refine (yes_any _ _).mono ?_; rintro e w' ⟨rfl, rfl⟩))
  · go_ret
    exact ⟨ret_tw (rcmp_at k 0 _ _ _ _ (by assumption)).symm, rfl⟩
  · go_ret
    exact ⟨ret_tw (rcmp_at k 1 _ _ _ _ (by assumption)).symm, rfl⟩
  · go_ret
    exact ⟨ret_tw (rcmp_at k 2 _ _ _ _ (by assumption)).symm, rfl⟩
  · go_ret
    exact ⟨ret_tw (rcmp_at k 3 _ _ _ _ (by assumption)).symm, rfl⟩
  · go_ret
    exact ⟨ret_tw (rcmp_at k 4 _ _ _ _ (by assumption)).symm, rfl⟩
  · go_ret
    exact ⟨ret_tw (rcmp_at k 5 _ _ _ _ (by assumption)).symm, rfl⟩
  · go_ret
    exact ⟨ret_tw (rcmp_at k 6 _ _ _ _ (by assumption)).symm, rfl⟩
  · go_ret
    exact ⟨ret_tw (rcmp_at k 7 _ _ _ _ (by assumption)).symm, rfl⟩
  · go_ret
    exact ⟨ret_tw (rcmp_at k 8 _ _ _ _ (by assumption)).symm, rfl⟩
  · go_ret
    exact ⟨ret_tw (rcmp_last k _ _ _ _ hk (by assumption) (by assumption) (by assumption) (by assumption) (by assumption) (by assumption) (by assumption) (by assumption) (by assumption)), rfl⟩

/-! ### divide -/
theorem least_iff (n : Int) (x : BitVec 64) (h0 : 1 ≤ n) (h1 : n ≤ 64) (hx : x.toNat < 2 ^ n.toNat) :
    S (signSpec x n) = S (signSpec (BitVec.ofInt 64 (2 ^ (n.toNat - 1))) n) ↔ U x = IntKind.u64.wrap (2 ^ (n.toNat - 1)) := by
  have hp : (2 : Nat) ^ (n.toNat - 1) < 2 ^ n.toNat := Nat.pow_lt_pow_right (by decide) (by omega)
  have hq : (2 : Nat) ^ n.toNat ≤ 2 ^ 64 := Nat.pow_le_pow_right (by decide) (by omega)
  have hl : (BitVec.ofInt 64 (2 ^ (n.toNat - 1))).toNat = 2 ^ (n.toNat - 1) := by
    rw [BitVec.toNat_ofInt]
    have e : ((2 : Int) ^ (n.toNat - 1)) = ((2 ^ (n.toNat - 1) : Nat) : Int) := by rw [Int.natCast_pow]; rfl
    have hr : (2 : Nat) ^ (n.toNat - 1) < 2 ^ 64 := Nat.lt_of_lt_of_le hp hq
    rw [e]
    generalize (2 : Nat) ^ (n.toNat - 1) = p at hr
    omega
  rw [wrapI]
  constructor
  · intro h
    have := sgn_inj _ _ n h0 h1 h
    rw [cutB_of_lt x _ (by omega) hx, cutB_of_lt _ _ (by omega) (by rw [hl]; exact hp)] at this
    rw [← this]
  · intro h
    rw [U_inj.mp h]

theorem S_neg_one (a : Int) : a.tmod (-1) = 0 := by rw [Int.tmod_neg]; exact Int.tmod_one a

theorem rdivide_any (k n : Int) (x y : BitVec 64) (hk : k = 0 ∨ k = 1 ∨ k = 2 ∨ k = 3) (hn : n = 32 ∨ n = 64) (hx : x.toNat < 2 ^ n.toNat) (hy : y.toNat < 2 ^ n.toNat) (w : World) :
    Calls Try.prog 31 #[.int .i64 k, .int .u64 (U x), .int .u64 (U y), .int .i64 n] w fun e w' => e = .returned (.tuple #[.int .u64 (U (divB k n x y).1), .int .i64 (divB k n x y).2]) ∧ w = w' := by
  have h0 : 1 ≤ n := by omega
  have h1 : n ≤ 64 := by omega
  have HX := Lib.hid hx
  have HY := Lib.hid hy
  have HE := Lib.hid (least_iff n x h0 h1 hx)
  clear hx hy hn
  have rw0 := fun m : Nat => wrapI ((2 : Int) ^ m)
  by_cases hz : U y = 0
  · rw [div_zero _ _ _ _ hz]
    have hz2 : (U y == 0) = true := by simp [hz]
    clear hz rw0
    go_enter Try.func31, Try.ntmps31
    go_wp2
    go_ret2
    exact ⟨rfl, rfl⟩
  · have hz2 : (U y == 0) = false := by simp [hz]
    have HZ := Lib.hid hz
    clear hz
    rcases hk with rfl | rfl | rfl | rfl
    · by_cases hm : S (signSpec x n) = S (signSpec (BitVec.ofInt 64 (2 ^ (n.toNat - 1))) n)
      · have hm2 : (S (signSpec x n) == S (signSpec (BitVec.ofInt 64 (2 ^ (n.toNat - 1))) n)) = true := by simp [hm]
        by_cases hs : S (signSpec y n) = -1
        · rw [div_over n x y HZ.out (HE.out.mp hm) hs]
          have hs2 : (S (signSpec y n) == -1) = true := by simp [hs]
          clear hm hs
          go_enter Try.func31, Try.ntmps31
          go_wp2_with (go_at_call 13; refine (rsign_any _ _ _).mono ?_; rintro e w' ⟨rfl, rfl⟩)
          go_ret2
          exact ⟨rfl, rfl⟩
        · rw [div_sq n x y HZ.out (fun h => hs h.2)]
          have hs2 : (S (signSpec y n) == -1) = false := by simp [hs]
          have hs3 : S (signSpec y n) ≠ 0 := sgn_ne_zero y n h0 h1 HY.out HZ.out
          have r1 := wrap_wrap64
          clear hm hs
          go_enter Try.func31, Try.ntmps31
          go_wp2_with (go_at_call 13; refine (rsign_any _ _ _).mono ?_; rintro e w' ⟨rfl, rfl⟩)
          go_ret2
          exact ⟨rfl, rfl⟩
      · rw [div_sq n x y HZ.out (fun h => hm (HE.out.mpr h.1))]
        have hm2 : (S (signSpec x n) == S (signSpec (BitVec.ofInt 64 (2 ^ (n.toNat - 1))) n)) = false := by simp [hm]
        have hs3 : S (signSpec y n) ≠ 0 := sgn_ne_zero y n h0 h1 HY.out HZ.out
        have r1 := wrap_wrap64
        clear hm
        go_enter Try.func31, Try.ntmps31
        go_wp2_with (go_at_call 13; refine (rsign_any _ _ _).mono ?_; rintro e w' ⟨rfl, rfl⟩)
        go_ret2
        exact ⟨rfl, rfl⟩
    · rw [div_uq n x y HZ.out]
      have hz3 : U y ≠ 0 := HZ.out
      have r1 := divU
      have r2 := ediv_U
      have r3 := wrapU
      go_enter Try.func31, Try.ntmps31
      go_wp2_with (go_at_call 13; refine (rsign_any _ _ _).mono ?_; rintro e w' ⟨rfl, rfl⟩)
      go_ret2
      exact ⟨rfl, rfl⟩
    · rw [div_sr n x y HZ.out]
      by_cases hs : S (signSpec y n) = -1
      · rw [hs, S_neg_one]
        have hs2 : (S (signSpec y n) == -1) = true := by simp [hs]
        clear hs
        go_enter Try.func31, Try.ntmps31
        go_wp2_with (go_at_call 13; refine (rsign_any _ _ _).mono ?_; rintro e w' ⟨rfl, rfl⟩)
        go_ret2
        exact ⟨rfl, rfl⟩
      · have hs2 : (S (signSpec y n) == -1) = false := by simp [hs]
        have hs3 : S (signSpec y n) ≠ 0 := sgn_ne_zero y n h0 h1 HY.out HZ.out
        have r1 := wrap_tmod
        have r2 := wrap_wrap64
        clear hs
        go_enter Try.func31, Try.ntmps31
        go_wp2_with (go_at_call 13; refine (rsign_any _ _ _).mono ?_; rintro e w' ⟨rfl, rfl⟩)
        go_ret2
        exact ⟨rfl, rfl⟩
    · rw [div_ur n x y HZ.out]
      have hz3 : U y ≠ 0 := HZ.out
      have r1 := modU
      have r2 := emod_U
      go_enter Try.func31, Try.ntmps31
      go_wp2_with (go_at_call 13; refine (rsign_any _ _ _).mono ?_; rintro e w' ⟨rfl, rfl⟩)
      go_ret2
      exact ⟨rfl, rfl⟩

/-! ### counts -/
theorem high_bit (x : BitVec 64) (m : Nat) (h : x.toNat < 2 ^ (m + 1)) :
    U ((x >>> m) &&& 1#64) = if x.toNat < 2 ^ m then 0 else 1 := by
  unfold U
  rw [bit_eq, BitVec.toNat_ushiftRight, Nat.shiftRight_eq_div_pow]
  rw [Nat.pow_succ] at h
  split
  · rename_i h1; rw [Nat.div_eq_of_lt h1]; rfl
  · rename_i h1
    have : x.toNat / 2 ^ m = 1 := by
      apply Nat.div_eq_of_lt_le <;> omega
    rw [this]; rfl

theorem rcounts_lead (x : BitVec 64) (n : Int) (h0 : 1 ≤ n) (h1 : n ≤ 64) (hx : x.toNat < 2 ^ n.toNat) (w : World) :
    Calls Try.prog 30 #[.int .i64 0, .int .u64 (U x), .int .i64 n] w fun e w' => e = .returned (.int .u64 (U (clzB n x))) ∧ w = w' := by
  rw [clzB_U n h1]
  obtain ⟨N, rfl⟩ : ∃ N : Nat, n = N := ⟨n.toNat, by omega⟩
  rw [Int.toNat_natCast] at hx ⊢
  have HX := Lib.hid hx
  clear hx
  have r1 := shrU
  have r2 := and1U
  go_enter Try.func30, Try.ntmps30
  go_wp2
  go_loop [7, 8] (fun m i => ∃ k : Nat, k ≤ N ∧ x.toNat < 2 ^ (N - k) ∧ m = .int .u64 (k : Int) ∧ i = .int .i64 (k : Int)) (fun _ i => N - (intOf i).toNat)
  case atStart => exact ⟨0, Nat.zero_le _, HX.out, rfl, rfl⟩
  case round =>
    obtain ⟨k, hk, hp, rfl, rfl⟩ := hrel
    by_cases hlt : k < N
    · have hb := high_bit x (N - 1 - k) (by rw [show N - 1 - k + 1 = N - k by omega]; exact hp)
      by_cases hs : x.toNat < 2 ^ (N - 1 - k)
      · rw [if_pos hs] at hb
        have HB := Lib.hid hs
        have hb2 : (U ((x >>> (N - 1 - k)) &&& 1#64) == 1) = false := by rw [hb]; rfl
        clear hb hs hp
        go_wp2
        go_round
        case rel => exact ⟨k + 1, by omega, by rw [show N - (k + 1) = N - 1 - k by omega]; exact HB.out, by go_num, by go_num⟩
        case measure => simp [intOf]; omega
      · rw [if_neg hs] at hb
        have hb2 : (U ((x >>> (N - 1 - k)) &&& 1#64) == 1) = true := by rw [hb]; rfl
        have hl : lenN x.toNat = N - k := by
          have := lenN_eq (a := x.toNat) (n := N - 1 - k) (by omega) (by rw [show N - 1 - k + 1 = N - k by omega]; exact hp)
          omega
        have hlk : ((k : Nat) : Int) = ((N - lenN x.toNat : Nat) : Int) := by rw [hl]; omega
        have HL := Lib.hid hlk
        clear hb hs hp hl hlk
        go_wp2
        go_ret
        exact ⟨ret_int HL.out, rfl⟩
    · have hl : lenN x.toNat ≤ 0 := lenN_le (by rwa [show N - k = 0 by omega] at hp)
      have hlk : ((k : Nat) : Int) = ((N - lenN x.toNat : Nat) : Int) := by omega
      have HL := Lib.hid hlk
      clear hp hl hlk
      go_wp2
      go_ret
      exact ⟨ret_int HL.out, rfl⟩

theorem rcounts_trail (x : BitVec 64) (n : Int) (h0 : 1 ≤ n) (h1 : n ≤ 64) (w : World) :
    Calls Try.prog 30 #[.int .i64 1, .int .u64 (U x), .int .i64 n] w fun e w' => e = .returned (.int .u64 (U (ctzB n x))) ∧ w = w' := by
  rw [ctzB_U n h0 h1]
  obtain ⟨N, rfl⟩ : ∃ N : Nat, n = N := ⟨n.toNat, by omega⟩
  rw [Int.toNat_natCast]
  obtain ⟨C, hC⟩ : ∃ C, ctzFrom x 0 N = C := ⟨_, rfl⟩
  rw [hC]
  have HC := Lib.hid hC
  clear hC
  have r1 := shrU
  have r2 := and1U
  go_enter Try.func30, Try.ntmps30
  go_wp2
  go_loop [7, 8] (fun m i => ∃ k : Nat, k ≤ N ∧ ctzFrom x k (N - k) = C ∧ m = .int .u64 (k : Int) ∧ i = .int .i64 (k : Int)) (fun _ i => N - (intOf i).toNat)
  case atStart => exact ⟨0, Nat.zero_le _, HC.out, rfl, rfl⟩
  case round =>
    obtain ⟨k, hk, hc, rfl, rfl⟩ := hrel
    have HK := Lib.hid hc
    clear hc
    by_cases hlt : k < N
    · have hs : ctzFrom x k (N - k) = if U ((x >>> k) &&& 1#64) = 0 then ctzFrom x (k + 1) (N - (k + 1)) else k := by
        rw [show N - k = (N - (k + 1)) + 1 by omega]; rfl
      have HS := Lib.hid hs
      clear hs
      by_cases hb : U ((x >>> k) &&& 1#64) = 0
      · have hb2 : (U ((x >>> k) &&& 1#64) == 1) = false := by rw [hb]; rfl
        have HB := Lib.hid hb
        clear hb
        go_wp2
        go_round
        case rel => exact ⟨k + 1, by omega, by have := HS.out; rw [if_pos HB.out, HK.out] at this; exact this.symm, by go_num, by go_num⟩
        case measure => simp [intOf]; omega
      · have hb2 : (U ((x >>> k) &&& 1#64) == 1) = true := by rw [bit_zero_of _ hb]; rfl
        have HB := Lib.hid hb
        clear hb
        go_wp2
        go_ret
        exact ⟨ret_int (by have := HS.out; rw [if_neg HB.out, HK.out] at this; rw [this]), rfl⟩
    · have hkN : k = N := by omega
      have HKN := Lib.hid hkN
      clear hkN
      go_wp2
      go_ret
      exact ⟨ret_int (by have := HK.out; rw [show N - k = 0 by omega] at this; rw [← this]; rfl), rfl⟩

theorem rcounts_ones (x : BitVec 64) (n : Int) (h0 : 1 ≤ n) (h1 : n ≤ 64) (hx : x.toNat < 2 ^ n.toNat) (w : World) :
    Calls Try.prog 30 #[.int .i64 2, .int .u64 (U x), .int .i64 n] w fun e w' => e = .returned (.int .u64 (U (popB x))) ∧ w = w' := by
  rw [popB_U, popTo_of_lt x n.toNat (by omega) hx]
  obtain ⟨N, rfl⟩ : ∃ N : Nat, n = N := ⟨n.toNat, by omega⟩
  rw [Int.toNat_natCast]
  clear hx
  have r1 := shrU
  have r2 := and1U
  go_enter Try.func30, Try.ntmps30
  go_wp2
  go_loop [7, 8] (fun m i => ∃ k p : Nat, k ≤ N ∧ p ≤ k ∧ p = popTo x k ∧ m = .int .u64 (p : Int) ∧ i = .int .i64 (k : Int)) (fun _ i => N - (intOf i).toNat)
  case atStart => exact ⟨0, 0, Nat.zero_le _, Nat.le_refl _, rfl, rfl, rfl⟩
  case round =>
    obtain ⟨k, p, hk, hpk, hp, rfl, rfl⟩ := hrel
    have HP := Lib.hid hp
    clear hp
    by_cases hlt : k < N
    · by_cases hb : U ((x >>> k) &&& 1#64) = 0
      · have hb2 : (U ((x >>> k) &&& 1#64) == 1) = false := by rw [hb]; rfl
        have hs : popTo x (k + 1) = p := by
          rw [HP.out]; show popTo x k + ((x >>> k) &&& 1#64).toNat = _; unfold U at hb; omega
        have HS := Lib.hid hs
        clear hb hs
        go_wp2
        go_round
        case rel => exact ⟨k + 1, p, by omega, by omega, HS.out.symm, rfl, by go_num⟩
        case measure => simp [intOf]; omega
      · have hb2 : (U ((x >>> k) &&& 1#64) == 1) = true := by rw [bit_zero_of _ hb]; rfl
        have hs : popTo x (k + 1) = p + 1 := by
          have := bit_zero_of _ hb
          rw [HP.out]; show popTo x k + ((x >>> k) &&& 1#64).toNat = _; unfold U at this; omega
        have HS := Lib.hid hs
        clear hb hs
        go_wp2
        go_round
        case rel => exact ⟨k + 1, p + 1, by omega, by omega, HS.out.symm, by go_num, by go_num⟩
        case measure => simp [intOf]; omega
    · have hkN : k = N := by omega
      have HKN := Lib.hid hkN
      clear hkN
      go_wp2
      go_ret
      exact ⟨ret_int (by rw [HP.out, HKN.out]), rfl⟩
end Go.Proofs.Ytjnmcaokcjkagaa
