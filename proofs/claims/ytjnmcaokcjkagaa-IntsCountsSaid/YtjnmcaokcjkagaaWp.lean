/-
  Contracts of the functions of ints that Do is made of: what each gives back, for any words.
-/
import Derived.Test.YtjnmcaokcjkagaaWsmall
import Derived.WalkKit
import Derived.WalkLawsBesides
import Derived.Deep.QuietTactic
import Derived.BigQuiet
import Derived.Lib.Hide
namespace Go.Proofs.Ytjnmcaokcjkagaa
open Go.RowKit

theorem ret_tw {b c : Bool} (h : b = c) : Ending.returned (.int .u64 (U (tw b))) = .returned (.int .u64 (U (tw c))) := by rw [h]
theorem ret_U {x y : BitVec 64} (h : x = y) : Ending.returned (.int .u64 (U x)) = .returned (.int .u64 (U y)) := by rw [h]
theorem ret_two {x : Int} {y : BitVec 64} {s t : Int} (h : x = U y) (g : s = t) :
    Ending.returned (.tuple #[.int .u64 x, .int .i64 s]) = .returned (.tuple #[.int .u64 (U y), .int .i64 t]) := by rw [h, g]

/-! ### compare -/
theorem cmp_at (op j x y X Y : Int) (h : (op == j) = true) : cmpB (op - 69) x y X Y = cmpB (j - 69) x y X Y := by
  rw [eq_of_beq_int h]
theorem cmp_last (op x y X Y : Int) (h0 : (op == 69) = false) (h1 : (op == 70) = false) (h2 : (op == 71) = false) (h3 : (op == 72) = false) (h4 : (op == 73) = false) (h5 : (op == 74) = false) (h6 : (op == 75) = false) (h7 : (op == 76) = false) (h8 : (op == 77) = false) (h9 : (op == 78) = false) :
    decide (y ≤ x) = cmpB (op - 69) x y X Y := by
  have := ne_of_beq_int h0; have := ne_of_beq_int h1; have := ne_of_beq_int h2; have := ne_of_beq_int h3; have := ne_of_beq_int h4
  have := ne_of_beq_int h5; have := ne_of_beq_int h6; have := ne_of_beq_int h7; have := ne_of_beq_int h8; have := ne_of_beq_int h9
  unfold cmpB
  rw [if_neg (by omega), if_neg (by omega), if_neg (by omega), if_neg (by omega), if_neg (by omega), if_neg (by omega), if_neg (by omega), if_neg (by omega), if_neg (by omega), if_neg (by omega)]

theorem compare_any (op n : Int) (a b : BitVec 64) (h0 : 1 ≤ n) (h1 : n ≤ 64) (w : World) :
    Calls Try.prog 18 #[.int .i64 op, .int .i64 n, .int .u64 (U a), .int .u64 (U b)] w fun e w' => e = .returned (.int .u64 (U (tw (cmpAt (op - 69) n (cutB a n.toNat) (cutB b n.toNat))))) ∧ w = w' := by
  unfold cmpAt
  go_enter Try.func18, Try.ntmps18
  go_wp2_with (first | (go_at_call 24; refine (cut_any _ _ (by assumption) (by assumption) _).mono ?_; rintro e w' ⟨rfl, rfl⟩) | (go_at_call 12; refine (sign_any _ _ _).mono ?_; rintro e w' ⟨rfl, rfl⟩) | (go_at_call 25; refine (truth_any _ _).mono ?_; rintro e w' ⟨rfl, rfl⟩))
  · go_ret
    exact ⟨ret_tw (cmp_at op 69 _ _ _ _ (by assumption)).symm, rfl⟩
  · go_ret
    exact ⟨ret_tw (cmp_at op 70 _ _ _ _ (by assumption)).symm, rfl⟩
  · go_ret
    exact ⟨ret_tw (cmp_at op 71 _ _ _ _ (by assumption)).symm, rfl⟩
  · go_ret
    exact ⟨ret_tw (cmp_at op 72 _ _ _ _ (by assumption)).symm, rfl⟩
  · go_ret
    exact ⟨ret_tw (cmp_at op 73 _ _ _ _ (by assumption)).symm, rfl⟩
  · go_ret
    exact ⟨ret_tw (cmp_at op 74 _ _ _ _ (by assumption)).symm, rfl⟩
  · go_ret
    exact ⟨ret_tw (cmp_at op 75 _ _ _ _ (by assumption)).symm, rfl⟩
  · go_ret
    exact ⟨ret_tw (cmp_at op 76 _ _ _ _ (by assumption)).symm, rfl⟩
  · go_ret
    exact ⟨ret_tw (cmp_at op 77 _ _ _ _ (by assumption)).symm, rfl⟩
  · go_ret
    exact ⟨ret_tw (cmp_at op 78 _ _ _ _ (by assumption)).symm, rfl⟩
  · go_ret
    exact ⟨ret_tw (cmp_last op _ _ _ _ (by assumption) (by assumption) (by assumption) (by assumption) (by assumption) (by assumption) (by assumption) (by assumption) (by assumption) (by assumption)), rfl⟩

/-! ### counting -/
theorem leading_any (x : BitVec 64) (n : Int) (h0 : 1 ≤ n) (h1 : n ≤ 64) (hx : x.toNat < 2 ^ n.toNat) (w : World) :
    Calls Try.prog 32 #[.int .u64 (U x), .int .i64 n] w fun e w' => e = .returned (.int .u64 (U (clzB n x))) ∧ w = w' := by
  rw [clzB_U n h1]
  have hl : lenN x.toNat ≤ n.toNat := lenN_le hx
  obtain ⟨L, hL⟩ : ∃ L, lenN x.toNat = L := ⟨_, rfl⟩
  rw [hL] at hl ⊢
  obtain ⟨N, rfl⟩ : ∃ N : Nat, n = N := ⟨n.toNat, by omega⟩
  have r1 := halfU
  have HL := Lib.hid hL
  clear hL hx
  rw [Int.toNat_natCast] at hl ⊢
  go_enter Try.func32, Try.ntmps32
  go_wp2
  go_loop [0, 5] (fun a m => ∃ (y : BitVec 64) (k : Nat), k + L = N + lenN y.toNat ∧ k ≤ N ∧ a = .int .u64 (U y) ∧ m = .int .u64 (k : Int)) (fun a _ => (intOf a).toNat)
  case atStart => exact ⟨x, N, by rw [HL.out], Nat.le_refl _, rfl, rfl⟩
  case round =>
    obtain ⟨y, k, hk, hkN, rfl, rfl⟩ := hrel
    by_cases hy : U y = 0
    · have hz : lenN y.toNat = 0 := by unfold U at hy; rw [show y.toNat = 0 by omega]; rfl
      rw [hz] at hk
      have hkk : ((k : Nat) : Int) = ((N - L : Nat) : Int) := by omega
      have HK := Lib.hid hkk
      clear hkk hz hk
      have hy2 : (U y != 0) = false := by simp [hy]
      clear hy
      go_wp2
      go_ret
      exact ⟨ret_int HK.out, rfl⟩
    · have hy2 : (U y != 0) = true := by simp [hy]
      have hp : 1 ≤ k := by have := half_len y hy; have := lenN_pos (a := y.toNat) (by unfold U at hy; omega); omega
      have HM := half_lt y hy
      have HH := half_len y hy
      have HK := Lib.hid hk
      have HM2 := Lib.hid HM
      have HH2 := Lib.hid HH
      clear HM HH hk hy
      go_wp2
      go_round
      case rel => exact ⟨y >>> 1, k - 1, by have := HK.out; have := HH2.out; omega, by omega, rfl, by rw [show ((k - 1 : Nat) : Int) = (k : Int) - 1 by omega]⟩
      case measure => exact HM2.out

theorem bit_zero_of (y : BitVec 64) (h : ¬ U (y &&& 1#64) = 0) : U (y &&& 1#64) = 1 := by
  have := bit_le y; unfold U at *; omega

theorem trailing_any (x : BitVec 64) (n : Int) (h0 : 1 ≤ n) (h1 : n ≤ 64) (w : World) :
    Calls Try.prog 33 #[.int .u64 (U x), .int .i64 n] w fun e w' => e = .returned (.int .u64 (U (ctzB n x))) ∧ w = w' := by
  rw [ctzB_U n h0 h1]
  obtain ⟨N, rfl⟩ : ∃ N : Nat, n = N := ⟨n.toNat, by omega⟩
  rw [Int.toNat_natCast]
  obtain ⟨C, hC⟩ : ∃ C, ctzFrom x 0 N = C := ⟨_, rfl⟩
  rw [hC]
  have HC := Lib.hid hC
  clear hC
  have r1 := shrU
  have r2 := and1U
  go_enter Try.func33, Try.ntmps33
  go_wp2
  go_loop [5] (fun i => ∃ k : Nat, k ≤ N ∧ ctzFrom x k (N - k) = C ∧ i = .int .i64 (k : Int)) (fun i => N - (intOf i).toNat)
  case atStart => exact ⟨0, Nat.zero_le _, HC.out, rfl⟩
  case round =>
    obtain ⟨k, hk, hc, rfl⟩ := hrel
    have HK := Lib.hid hc
    clear hc
    by_cases hlt : k < N
    · have hs : ctzFrom x k (N - k) = if U ((x >>> k) &&& 1#64) = 0 then ctzFrom x (k + 1) (N - (k + 1)) else k := by
        rw [show N - k = (N - (k + 1)) + 1 by omega]; rfl
      have HS := Lib.hid hs
      clear hs
      by_cases hb : U ((x >>> k) &&& 1#64) = 0
      · have hb2 : (U ((x >>> k) &&& 1#64) == 0) = true := by simp [hb]
        have HB := Lib.hid hb
        clear hb
        go_wp2
        go_round
        case rel => exact ⟨k + 1, by omega, by have := HS.out; rw [if_pos HB.out, HK.out] at this; exact this.symm, by go_num⟩
        case measure => simp [intOf]; omega
      · have hb2 : (U ((x >>> k) &&& 1#64) == 0) = false := by simp [hb]
        have HB := Lib.hid hb
        clear hb
        go_wp2
        go_ret
        exact ⟨ret_int (by have := HS.out; rw [if_neg HB.out, HK.out] at this; rw [this]), rfl⟩
    · have hkN : k = N := by omega
      have HKN := Lib.hid hkN
      clear hkN
      go_wp2
      go_ret
      exact ⟨ret_int (by have := HK.out; rw [show N - k = 0 by omega] at this; rw [← this]; rfl), rfl⟩

theorem ones_any (x : BitVec 64) (w : World) :
    Calls Try.prog 34 #[.int .u64 (U x)] w fun e w' => e = .returned (.int .u64 (U (popB x))) ∧ w = w' := by
  rw [popB_U]
  have r1 := halfU
  have r2 := and1U
  go_enter Try.func34, Try.ntmps34
  go_wp2
  go_loop [0, 3] (fun a m => ∃ (j k : Nat), j ≤ 64 ∧ k ≤ j ∧ k = popTo x j ∧ a = .int .u64 (U (x >>> j)) ∧ m = .int .u64 (k : Int)) (fun a _ => (intOf a).toNat)
  case atStart => exact ⟨0, 0, by omega, by omega, rfl, by simp, rfl⟩
  case round =>
    obtain ⟨j, k, hj, hkj, hk, rfl, rfl⟩ := hrel
    have HK := Lib.hid hk
    clear hk
    by_cases hy : U (x >>> j) = 0
    · have hz : x >>> j = 0#64 := by rw [← U_inj, hy]; rfl
      have hp : popTo x 64 = popTo x j := by
        have := popTo_stop x j hz (64 - j); rwa [show j + (64 - j) = 64 by omega] at this
      have HP := Lib.hid hp
      have hy2 : (U (x >>> j) != 0) = false := by simp [hy]
      clear hy hz hp
      go_wp2
      go_ret
      exact ⟨ret_int (by rw [HP.out, HK.out]), rfl⟩
    · have hy2 : (U (x >>> j) != 0) = true := by simp [hy]
      have hj2 : j < 64 := by
        by_cases h : j < 64
        · exact h
        · exfalso; apply hy
          have : x >>> j = 0#64 := shr_zero_of_lt x j (Nat.lt_of_lt_of_le x.isLt (Nat.pow_le_pow_right (by decide) (by omega)))
          rw [this]; rfl
      obtain ⟨b, hb⟩ : ∃ b : Nat, ((x >>> j) &&& 1#64).toNat = b := ⟨_, rfl⟩
      have hb1 : b ≤ 1 := by rw [← hb]; exact bit_le _
      have hbU : U ((x >>> j) &&& 1#64) = (b : Int) := by unfold U; rw [hb]
      have HM := half_lt _ hy
      have HM2 := Lib.hid HM
      have HB := Lib.hid hb
      have hs : (x >>> j) >>> 1 = x >>> (j + 1) := shr_add x j 1
      have HS := Lib.hid hs
      clear HM hb hs hy
      go_wp2
      go_round
      case rel => exact ⟨j + 1, k + b, by omega, by omega, by rw [HK.out]; show _ = popTo x j + _; rw [HB.out], by rw [HS.out], by go_num⟩
      case measure => exact HM2.out

/-! ### count, combine, shift, convert -/
theorem count_any (op : Int) (x : BitVec 64) (n : Int) (hop : op = 103 ∨ op = 104 ∨ op = 105) (h0 : 1 ≤ n) (h1 : n ≤ 64) (hx : x.toNat < 2 ^ n.toNat) (w : World) :
    Calls Try.prog 26 #[.int .i64 op, .int .i64 n, .int .u64 (U x)] w fun e w' => e = .returned (.int .u64 (U (arRaw (op - 103) n x x).1)) ∧ w = w' := by
  have HX := Lib.hid hx
  clear hx
  rcases hop with rfl | rfl | rfl
  · go_enter Try.func26, Try.ntmps26
    go_wp2_with (go_at_call 32; refine (leading_any _ _ h0 h1 HX.out _).mono ?_; rintro e w' ⟨rfl, rfl⟩)
    go_ret
    exact ⟨rfl, rfl⟩
  · go_enter Try.func26, Try.ntmps26
    go_wp2_with (go_at_call 33; refine (trailing_any _ _ h0 h1 _).mono ?_; rintro e w' ⟨rfl, rfl⟩)
    go_ret
    exact ⟨rfl, rfl⟩
  · go_enter Try.func26, Try.ntmps26
    go_wp2_with (go_at_call 34; refine (ones_any _ _).mono ?_; rintro e w' ⟨rfl, rfl⟩)
    go_ret
    exact ⟨rfl, rfl⟩

theorem combine_any (op : Int) (x y : BitVec 64) (n : Int) (hop : op = 106 ∨ op = 107 ∨ op = 108 ∨ op = 113 ∨ op = 114 ∨ op = 115) (w : World) :
    Calls Try.prog 28 #[.int .i64 op, .int .u64 (U x), .int .u64 (U y)] w fun e w' => e = .returned (.int .u64 (U (arRaw (op - 103) n x y).1)) ∧ w = w' := by
  have r1 := addU
  have r2 := subU
  have r3 := mulU
  have r4 := andU
  have r5 := orU
  have r6 := xorU
  rcases hop with rfl | rfl | rfl | rfl | rfl | rfl
  all_goals
    go_enter Try.func28, Try.ntmps28
    go_wp2
    go_ret
    exact ⟨rfl, rfl⟩

theorem shN_eq (n : Int) (y : BitVec 64) (s : Int) (h : s = U y % n) : s.toNat = shN n y := by rw [h]; rfl
theorem sub_toNat (n s : Int) (h0 : 0 ≤ s) (h1 : s ≤ n) : (n - s).toNat = n.toNat - s.toNat := by omega

theorem shift_any (op n s : Int) (x y : BitVec 64) (hop : op = 116 ∨ op = 117 ∨ op = 118 ∨ op = 119 ∨ op = 120) (hs : s = U y % n) (h0 : 0 ≤ s) (h1 : s ≤ n) (h2 : n ≤ 64) (w : World) :
    Calls Try.prog 29 #[.int .i64 op, .int .i64 n, .int .u64 (U x), .int .i64 s] w fun e w' => e = .returned (.int .u64 (U (arRaw (op - 103) n x y).1)) ∧ ∃ k, w' = w.drewN k := by
  have HN := Lib.hid (shN_eq n y s hs)
  have HT := Lib.hid (sub_toNat n s h0 h1)
  clear hs
  have r1 := shlU
  have r2 := shrU
  have r3 := orU
  have r4 := sarS
  have r5 := toU
  rcases hop with rfl | rfl | rfl | rfl | rfl
  · go_enter Try.func29, Try.ntmps29
    go_wp2
    go_ret
    exact ⟨ret_U (by show _ = x <<< shN n y; rw [← HN.out]), 0, rfl⟩
  · go_enter Try.func29, Try.ntmps29
    go_wp2_with (go_at_call 12; refine (sign_any _ _ _).mono ?_; rintro e w' ⟨rfl, rfl⟩)
    go_ret
    exact ⟨ret_U (by show _ = (signSpec x n).sshiftRight (shN n y); rw [← HN.out]), 0, rfl⟩
  · go_enter Try.func29, Try.ntmps29
    go_wp2
    go_ret
    exact ⟨ret_U (by show _ = x >>> shN n y; rw [← HN.out]), 0, rfl⟩
  · go_enter Try.func29, Try.ntmps29
    go_wp2
    go_quiet (fail)
    go_wp2
    go_ret
    exact ⟨ret_U (by show _ = (x <<< shN n y ||| x >>> (n.toNat - shN n y)); rw [← HN.out, ← HT.out]), _, rfl⟩
  · go_enter Try.func29, Try.ntmps29
    go_wp2
    go_quiet (fail)
    go_wp2
    go_ret
    exact ⟨ret_U (by show _ = (x >>> shN n y ||| x <<< (n.toNat - shN n y)); rw [← HN.out, ← HT.out]), _, rfl⟩
end Go.Proofs.Ytjnmcaokcjkagaa
