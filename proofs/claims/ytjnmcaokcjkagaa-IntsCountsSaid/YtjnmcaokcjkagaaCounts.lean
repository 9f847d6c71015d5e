/-
  IntsCounts: whatever the two words, the statement's function returns true: the walk.
-/
import Derived.Test.YtjnmcaokcjkagaaPairs
import Derived.Test.YtjnmcaokcjkagaaCountsM
namespace Go.Proofs.Ytjnmcaokcjkagaa
open Go.RowKit

theorem do_pw0 (op : Int) (a : BitVec 64) (w : World) : Calls Try.prog 16 #[.int .i64 op, .int .u64 (U a), .int .u64 0] w fun e w' => e = .returned (.tuple #[.int .u64 (U (pw op a 0#64)), .int .i64 (pt op a 0#64)]) ∧ ∃ k, w' = w.drewN k := do_any op a 0#64 w

/-- A width's first computation (zeros ahead) and its bits. -/
def Wide (B n : Int) : Prop := (B = 103 ∧ n = 32) ∨ (B = 121 ∧ n = 64)
theorem wide_n (B n : Int) (h : Wide B n) : 7 ≤ n ∧ n ≤ 64 := by rcases h with ⟨rfl, rfl⟩ | ⟨rfl, rfl⟩ <;> omega
theorem wide_pw (B n k : Int) (h : Wide B n) (k0 : 0 ≤ k) (k1 : k ≤ 17) (x c : BitVec 64) (hx : x.toNat < 2 ^ n.toNat) : pw (B + k) x c = cutB (arRaw k n x (cutB c n.toNat)).1 n.toNat := by
  unfold pw
  rcases h with ⟨rfl, rfl⟩ | ⟨rfl, rfl⟩
  · rw [do_a32 _ x c (by omega) (by omega), cutB_of_lt x 32 (by decide) hx, show (103 + k - 103 : Int) = k by omega]; rfl
  · rw [do_a64 _ x c (by omega) (by omega), show (121 + k - 121 : Int) = k by omega]
    show _ = cutB (arRaw k 64 x (cutB c 64)).1 64
    rw [cutB_64, cutB_64]
theorem ahead_U (B n : Int) (h : Wide B n) (x : BitVec 64) (hx : x.toNat < 2 ^ n.toNat) : U (pw B x 0#64) = ((n.toNat - lenN x.toNat : Nat) : Int) := by
  have hn := wide_n B n h
  have e := wide_pw B n 0 h (by decide) (by decide) x 0#64 hx
  rw [Int.add_zero] at e
  rw [e]
  show U (cutB (clzB n x) n.toNat) = _
  rw [show cutB (clzB n x) n.toNat = clzB n x from cut_small _ _ (by omega) (by omega) (by omega)]
  exact clzB_U n hn.2 x
theorem behind_U (B n : Int) (h : Wide B n) (x : BitVec 64) (hx : x.toNat < 2 ^ n.toNat) : U (pw (B + 1) x 0#64) = (ctzFrom x 0 n.toNat : Int) := by
  have hn := wide_n B n h
  rw [wide_pw B n 1 h (by decide) (by decide) x 0#64 hx]
  show U (cutB (ctzB n x) n.toNat) = _
  rw [show cutB (ctzB n x) n.toNat = ctzB n x from cut_small _ _ (by have := ctzFrom_le x n.toNat 0; omega) (by omega) (by omega)]
  exact ctzB_U n (by omega) hn.2 x
theorem ones_U (B n : Int) (h : Wide B n) (x : BitVec 64) (hx : x.toNat < 2 ^ n.toNat) : U (pw (B + 2) x 0#64) = (popTo x n.toNat : Int) := by
  have hn := wide_n B n h
  rw [wide_pw B n 2 h (by decide) (by decide) x 0#64 hx]
  show U (cutB (popB x) n.toNat) = _
  rw [show cutB (popB x) n.toNat = popB x from cut_small _ _ (popTo_le x 64) (by omega) (by omega), popB_U, popTo_of_lt x n.toNat (by omega) hx]
theorem sh_le (n : Int) (y : BitVec 64) (h : 1 ≤ n) : shN n y ≤ n.toNat := by
  unfold shN
  have := Int.emod_lt_of_pos (U y) (show 0 < n by omega)
  omega
theorem sh_cut (B n : Int) (h : Wide B n) (c : BitVec 64) : shN n (cutB c n.toNat) = (U c % n).toNat := by
  have hn := wide_n B n h
  unfold shN
  rw [cutU c n.toNat (by omega)]
  rcases h with ⟨rfl, rfl⟩ | ⟨rfl, rfl⟩
  · rw [show (2 : Int) ^ (32 : Int).toNat = 4294967296 by rfl]; omega
  · rw [show (2 : Int) ^ (64 : Int).toNat = 18446744073709551616 by rfl]; omega
theorem turned_U (B n : Int) (h : Wide B n) (x c : BitVec 64) (hx : x.toNat < 2 ^ n.toNat) : U (pw (B + 2) (pw (B + 16) x c) 0#64) = (popTo x n.toNat : Int) := by
  have hn := wide_n B n h
  have e := wide_pw B n 16 h (by decide) (by decide) x c hx
  obtain ⟨s, hs⟩ : ∃ s, shN n (cutB c n.toNat) = s := ⟨_, rfl⟩
  have hsn : s ≤ n.toNat := by rw [← hs]; exact sh_le n _ (by omega)
  have e2 : pw (B + 16) x c = cutB (x <<< s ||| x >>> (n.toNat - s)) n.toNat := by rw [e, ← hs]; rfl
  have hl : (pw (B + 16) x c).toNat < 2 ^ n.toNat := by rw [e2]; exact cutB_lt _ _ (by omega)
  rw [ones_U B n h _ hl, popTo_N, popTo_N, e2, rot_toNat x n.toNat s (by omega) hsn hx, popN_rot _ _ _ hsn hx]
theorem left_eq (B n : Int) (h : Wide B n) (x c : BitVec 64) (hx : x.toNat < 2 ^ n.toNat) : pw (B + 13) x c = cutB (x <<< (U c % n).toNat) n.toNat := by
  rw [wide_pw B n 13 h (by decide) (by decide) x c hx, ← sh_cut B n h c]; rfl
theorem right_eq (B n : Int) (h : Wide B n) (x c : BitVec 64) (hx : x.toNat < 2 ^ n.toNat) : U (pw (B + 15) x c) = U x / 2 ^ (U c % n).toNat := by
  have hn := wide_n B n h
  rw [wide_pw B n 15 h (by decide) (by decide) x c hx, ← sh_cut B n h c, shrU]
  show U (cutB (x >>> shN n (cutB c n.toNat)) n.toNat) = _
  rw [cutB_of_lt _ _ (by omega)]
  rw [BitVec.toNat_ushiftRight, Nat.shiftRight_eq_div_pow]
  exact Nat.lt_of_le_of_lt (Nat.div_le_self _ _) hx
theorem back_eq (B n : Int) (h : Wide B n) (x c : BitVec 64) (hx : x.toNat < 2 ^ n.toNat) : U (pw (B + 15) (pw (B + 13) x c) c) = U (pw (B + 13) x c) / 2 ^ (U c % n).toNat := by
  have hn := wide_n B n h
  exact right_eq B n h _ c (by rw [left_eq B n h x c hx]; exact cutB_lt _ _ (by omega))
theorem bne_of_eq {a b : Int} (h : a = b) : (a != b) = false := by simp [h]

/-! ### the walk -/
set_option maxRecDepth 100000 in
set_option maxHeartbeats 1600000 in
theorem counts_any (a n : BitVec 64) (w : World) :
    Calls Try.prog 7 #[.int .u64 (U a), .int .u64 (U n)] w (BoolPost true w) := by
  go_enter Try.func7, Try.ntmps7
  go_wp2
  go_loopw [29] (fun i wr => ∃ j k : Nat, j ≤ 2 ∧ i = .int .i64 (j : Int) ∧ wr = (w.alloc (.cells #[.int .i64 103, .int .i64 121] 3)).drewN k) (fun i _ => 2 - (intOf i).toNat)
  case atStart => exact ⟨0, 0, by omega, rfl, rfl⟩
  case round =>
    obtain ⟨j, k, hj, rfl, rfl⟩ := hrel
    obtain rfl | rfl | rfl : j = 0 ∨ j = 1 ∨ j = 2 := by omega
    · have z1 : U (pw 103 (cutB a 32) 0#64) = ((32 - lenN (cutB a 32).toNat : Nat) : Int) := ahead_U 103 32 (.inl ⟨rfl, rfl⟩) (cutB a 32) (cutB_lt a 32 (by decide))
      have z2 : U (pw 104 (cutB a 32) 0#64) = (ctzFrom (cutB a 32) 0 32 : Int) := behind_U 103 32 (.inl ⟨rfl, rfl⟩) (cutB a 32) (cutB_lt a 32 (by decide))
      have z3 : U (pw 105 (cutB a 32) 0#64) = (popTo (cutB a 32) 32 : Int) := ones_U 103 32 (.inl ⟨rfl, rfl⟩) (cutB a 32) (cutB_lt a 32 (by decide))
      have z4 : U (pw 105 (pw 119 (cutB a 32) n) 0#64) = (popTo (cutB a 32) 32 : Int) := turned_U 103 32 (.inl ⟨rfl, rfl⟩) (cutB a 32) n (cutB_lt a 32 (by decide))
      have hw : (Go.bits .and .u64 (IntKind.u64.wrap (U (cutB a 32) * 2 ^ (U n % 32).toNat)) 4294967295) = U (pw 116 (cutB a 32) n) := by rw [shlU, lowU]; exact congrArg U (left_eq 103 32 (.inl ⟨rfl, rfl⟩) (cutB a 32) n (cutB_lt a 32 (by decide))).symm
      have g1 : (U (pw 116 (cutB a 32) n) != (Go.bits .and .u64 (IntKind.u64.wrap (U (cutB a 32) * 2 ^ (U n % 32).toNat)) 4294967295)) = false := bne_of_eq hw.symm
      have g2 : (U (pw 118 (pw 116 (cutB a 32) n) n) != (Go.bits .and .u64 (IntKind.u64.wrap (U (cutB a 32) * 2 ^ (U n % 32).toNat)) 4294967295) / 2 ^ (U n % 32).toNat) = false := bne_of_eq (by rw [hw]; exact back_eq 103 32 (.inl ⟨rfl, rfl⟩) (cutB a 32) n (cutB_lt a 32 (by decide)))
      have H0 := Lib.hid (fun h => high_U (cutB a 32) (31 - (32 - lenN (cutB a 32).toNat)) h (by have := lenN_pos h; have := lenN_le (cutB_lt a 32 (by decide)); omega))
      have H1 := Lib.hid (low_U (cutB a 32) 32 (cutB_lt a 32 (by decide)))
      have H2 := Lib.hid (gone_U (cutB a 32) 32 (by decide))
      have H3 := Lib.hid (ctz_lt (cutB a 32) 32 (cutB_lt a 32 (by decide)))
      have H4 := Lib.hid (ctz_zero (cutB a 32) 32)
      have H5 := Lib.hid (fun h : (cutB a 32).toNat ≠ 0 => (show 32 - lenN (cutB a 32).toNat ≤ 31 by have := lenN_pos h; omega))
      have H6 := Lib.hid (fun h : (cutB a 32).toNat = 0 => (show 32 - lenN (cutB a 32).toNat = 32 by rw [h]; rfl))
      clear hw
      generalize 32 - lenN (cutB a 32).toNat = Z at z1 H0 H5 H6
      have HC := Lib.hid (popTo_le (cutB a 32))
      have hC := popTo_le (cutB a 32) 32
      obtain ⟨C, hCe⟩ : ∃ C, popTo (cutB a 32) 32 = C := ⟨_, rfl⟩
      rw [hCe] at z3 z4 hC
      have HCe := Lib.hid hCe
      clear hCe
      generalize ctzFrom (cutB a 32) 0 32 = T at z2 H1 H2 H3 H4
      have r1 := lowU a
      have hn := U_nonneg n
      go_wp2_with (go_at_call 16; (first | (with_reducible refine (do_pw0 _ _ _).mono ?_) | (with_reducible refine (do_pw _ _ _ _).mono ?_)); rintro e w' ⟨rfl, k, rfl⟩)
      go_loopw [19, 20] (fun c i wr => ∃ p c' q : Nat, p ≤ 32 ∧ c' ≤ p ∧ c' = popTo (cutB a 32) p ∧ c = .int .u64 (c' : Int) ∧ i = .int .u64 (p : Int) ∧ wr = (w.alloc (.cells #[.int .i64 103, .int .i64 121] 3)).drewN q) (fun _ i _ => 64 - (intOf i).toNat)
      case atStart => exact ⟨0, 0, _, by omega, by omega, rfl, rfl, rfl, rfl⟩
      case round =>
        obtain ⟨p, c', q, hp, hcp, hc, rfl, rfl, rfl⟩ := hrel
        have HCC := Lib.hid hc
        clear hc
        by_cases hlp : p < 32
        · clear H0 H1 H2 H3 H4 H5 H6 g1 g2 z1 z2 z3 z4 hC HCe hn
          have q1 := shrU (cutB a 32) p
          have q2 := and1U ((cutB a 32) >>> p)
          obtain ⟨b, hb⟩ : ∃ b : Nat, (((cutB a 32) >>> p) &&& 1#64).toNat = b := ⟨_, rfl⟩
          have hb1 : b ≤ 1 := by rw [← hb]; exact bit_le _
          have hbU : U (((cutB a 32) >>> p) &&& 1#64) = (b : Int) := by unfold U; rw [hb]
          have HB := Lib.hid hb
          clear hb
          go_wp2
          go_roundw
          case rel => exact ⟨p + 1, c' + b, _, by omega, by omega, by rw [HCC.out]; show _ = popTo (cutB a 32) p + _; rw [HB.out], by go_num, by go_num, rfl⟩
          case measure => simp [intOf]; omega
        · obtain rfl : p = 32 := by omega
          obtain rfl : c' = C := by rw [HCC.out, HCe.out]
          clear hlp HCC HCe HC hp hcp
          by_cases hx0 : (cutB a 32).toNat = 0
          · have x0 : (U (cutB a 32) != 0) = false := by unfold U; rw [hx0]; rfl
            have x1 : (U (cutB a 32) == 0) = true := by unfold U; rw [hx0]; rfl
            have hZ := H6.out hx0
            have hT := H4.out hx0
            subst hZ hT
            clear H0 H1 H2 H3 H4 H5 H6 hx0
            go_wp2_with (go_at_call 16; (first | (with_reducible refine (do_pw0 _ _ _).mono ?_) | (with_reducible refine (do_pw _ _ _ _).mono ?_)); rintro e w' ⟨rfl, k, rfl⟩)
            go_roundw
            case rel => exact ⟨1, _, by omega, rfl, rfl⟩
            case measure => simp [intOf]
          · have x0 : (U (cutB a 32) != 0) = true := by have : U (cutB a 32) ≠ 0 := (by unfold U; omega); simp [this]
            have x1 : (U (cutB a 32) == 0) = false := by have : U (cutB a 32) ≠ 0 := (by unfold U; omega); simp [this]
            have h0 := H0.out hx0
            have h1 := H1.out hx0
            have h2 := H2.out
            have h3 : T ≤ 31 := by have := H3.out hx0; omega
            have h5 := H5.out hx0
            clear H0 H1 H2 H3 H4 H5 H6 hx0
            go_wp2_with (go_at_call 16; (first | (with_reducible refine (do_pw0 _ _ _).mono ?_) | (with_reducible refine (do_pw _ _ _ _).mono ?_)); rintro e w' ⟨rfl, k, rfl⟩)
            go_roundw
            case rel => exact ⟨1, _, by omega, rfl, rfl⟩
            case measure => simp [intOf]
    · have z1 : U (pw 121 a 0#64) = ((64 - lenN a.toNat : Nat) : Int) := ahead_U 121 64 (.inr ⟨rfl, rfl⟩) a a.isLt
      have z2 : U (pw 122 a 0#64) = (ctzFrom a 0 64 : Int) := behind_U 121 64 (.inr ⟨rfl, rfl⟩) a a.isLt
      have z3 : U (pw 123 a 0#64) = (popTo a 64 : Int) := ones_U 121 64 (.inr ⟨rfl, rfl⟩) a a.isLt
      have z4 : U (pw 123 (pw 137 a n) 0#64) = (popTo a 64 : Int) := turned_U 121 64 (.inr ⟨rfl, rfl⟩) a n a.isLt
      have hw : (IntKind.u64.wrap (U a * 2 ^ (U n % 64).toNat)) = U (pw 134 a n) := by rw [shlU]; exact congrArg U ((cutB_64 _).symm.trans (left_eq 121 64 (.inr ⟨rfl, rfl⟩) a n a.isLt).symm)
      have g1 : (U (pw 134 a n) != (IntKind.u64.wrap (U a * 2 ^ (U n % 64).toNat))) = false := bne_of_eq hw.symm
      have g2 : (U (pw 136 (pw 134 a n) n) != (IntKind.u64.wrap (U a * 2 ^ (U n % 64).toNat)) / 2 ^ (U n % 64).toNat) = false := bne_of_eq (by rw [hw]; exact back_eq 121 64 (.inr ⟨rfl, rfl⟩) a n a.isLt)
      have H0 := Lib.hid (fun h => high_U a (63 - (64 - lenN a.toNat)) h (by have := lenN_pos h; have := lenN_le a.isLt; omega))
      have H1 := Lib.hid (low_U a 64 a.isLt)
      have H2 := Lib.hid (gone_U a 64 (by decide))
      have H3 := Lib.hid (ctz_lt a 64 a.isLt)
      have H4 := Lib.hid (ctz_zero a 64)
      have H5 := Lib.hid (fun h : a.toNat ≠ 0 => (show 64 - lenN a.toNat ≤ 63 by have := lenN_pos h; omega))
      have H6 := Lib.hid (fun h : a.toNat = 0 => (show 64 - lenN a.toNat = 64 by rw [h]; rfl))
      clear hw
      generalize 64 - lenN a.toNat = Z at z1 H0 H5 H6
      have HC := Lib.hid (popTo_le a)
      have hC := popTo_le a 64
      obtain ⟨C, hCe⟩ : ∃ C, popTo a 64 = C := ⟨_, rfl⟩
      rw [hCe] at z3 z4 hC
      have HCe := Lib.hid hCe
      clear hCe
      generalize ctzFrom a 0 64 = T at z2 H1 H2 H3 H4
      have hn := U_nonneg n
      go_wp2_with (go_at_call 16; (first | (with_reducible refine (do_pw0 _ _ _).mono ?_) | (with_reducible refine (do_pw _ _ _ _).mono ?_)); rintro e w' ⟨rfl, k, rfl⟩)
      go_loopw [19, 20] (fun c i wr => ∃ p c' q : Nat, p ≤ 64 ∧ c' ≤ p ∧ c' = popTo a p ∧ c = .int .u64 (c' : Int) ∧ i = .int .u64 (p : Int) ∧ wr = (w.alloc (.cells #[.int .i64 103, .int .i64 121] 3)).drewN q) (fun _ i _ => 64 - (intOf i).toNat)
      case atStart => exact ⟨0, 0, _, by omega, by omega, rfl, rfl, rfl, rfl⟩
      case round =>
        obtain ⟨p, c', q, hp, hcp, hc, rfl, rfl, rfl⟩ := hrel
        have HCC := Lib.hid hc
        clear hc
        by_cases hlp : p < 64
        · clear H0 H1 H2 H3 H4 H5 H6 g1 g2 z1 z2 z3 z4 hC HCe hn
          have q1 := shrU a p
          have q2 := and1U (a >>> p)
          obtain ⟨b, hb⟩ : ∃ b : Nat, ((a >>> p) &&& 1#64).toNat = b := ⟨_, rfl⟩
          have hb1 : b ≤ 1 := by rw [← hb]; exact bit_le _
          have hbU : U ((a >>> p) &&& 1#64) = (b : Int) := by unfold U; rw [hb]
          have HB := Lib.hid hb
          clear hb
          go_wp2
          go_roundw
          case rel => exact ⟨p + 1, c' + b, _, by omega, by omega, by rw [HCC.out]; show _ = popTo a p + _; rw [HB.out], by go_num, by go_num, rfl⟩
          case measure => simp [intOf]; omega
        · obtain rfl : p = 64 := by omega
          obtain rfl : c' = C := by rw [HCC.out, HCe.out]
          clear hlp HCC HCe HC hp hcp
          by_cases hx0 : a.toNat = 0
          · have x0 : (U a != 0) = false := by unfold U; rw [hx0]; rfl
            have x1 : (U a == 0) = true := by unfold U; rw [hx0]; rfl
            have hZ := H6.out hx0
            have hT := H4.out hx0
            subst hZ hT
            clear H0 H1 H2 H3 H4 H5 H6 hx0
            go_wp2_with (go_at_call 16; (first | (with_reducible refine (do_pw0 _ _ _).mono ?_) | (with_reducible refine (do_pw _ _ _ _).mono ?_)); rintro e w' ⟨rfl, k, rfl⟩)
            go_roundw
            case rel => exact ⟨2, _, by omega, rfl, rfl⟩
            case measure => simp [intOf]
          · have x0 : (U a != 0) = true := by have : U a ≠ 0 := (by unfold U; omega); simp [this]
            have x1 : (U a == 0) = false := by have : U a ≠ 0 := (by unfold U; omega); simp [this]
            have h0 := H0.out hx0
            have h1 := H1.out hx0
            have h2 := H2.out
            have h3 : T ≤ 63 := by have := H3.out hx0; omega
            have h5 := H5.out hx0
            clear H0 H1 H2 H3 H4 H5 H6 hx0
            go_wp2_with (go_at_call 16; (first | (with_reducible refine (do_pw0 _ _ _).mono ?_) | (with_reducible refine (do_pw _ _ _ _).mono ?_)); rintro e w' ⟨rfl, k, rfl⟩)
            go_roundw
            case rel => exact ⟨2, _, by omega, rfl, rfl⟩
            case measure => simp [intOf]
    · have hacc : Below w.heap.size w (w.alloc (.cells #[.int .i64 103, .int .i64 121] 3)) := (Below.refl _ _).alloc (Nat.le_refl _) _
      go_wp2_with (go_at_call 14; refine (known_any _).mono ?_; rintro e w' ⟨rfl, hb⟩; replace hacc := below_then (below_drewN hacc _) hb)
      go_ret
      exact ⟨rfl, hacc⟩
end Go.Proofs.Ytjnmcaokcjkagaa
