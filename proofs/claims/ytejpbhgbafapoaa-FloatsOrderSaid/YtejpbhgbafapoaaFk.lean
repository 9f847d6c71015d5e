/-
  Contracts of the conversions of floats: to whole numbers and back.
-/
import Derived.Test.YtejpbhgbafapoaaFc
namespace Go.Proofs.Ytejpbhgbafapoaa
open Go.RowKit

theorem ret_v {v u : Value} (h : v = u) : Ending.returned v = .returned u := by rw [h]

/-! ### from whole numbers -/
theorem sign_in (x : BitVec 64) (n : Int) (h0 : 1 ≤ n) (h1 : n ≤ 64) (w : World) :
    Calls Try.prog 27 #[.int .u64 (U x), .int .i64 n] w fun e w' => e = .returned (.int .i64 (S (signSpec x n))) ∧ w = w' := by
  rw [signSpec_in x n h0 h1]
  have r1 := shlU
  have r2 := sarS
  have r3 := toS
  go_enter Try.func27, Try.ntmps27
  go_wp2
  go_ret
  exact ⟨rfl, rfl⟩
theorem lowU32 (x : BitVec 64) : IntKind.u32.wrap (U x) = U (cutB x 32) := by
  unfold U; rw [IntKind.wrap_u32, cutB_toNat x 32 (by decide)]; rfl
/-- The float of a whole number comes back. -/
def OfPost (m : Int) (w : World) (e : Ending) (w' : World) : Prop := e = .returned (.float .f64 (floatOfInt .f64 m)) ∧ w = w'
theorem from_183 (a : BitVec 64) (w : World) : Calls Try.prog 17 #[.int .i64 183, .int .u64 (U a)] w (OfPost (S (signSpec a 32)) w) := by
  go_enter Try.func17, Try.ntmps17
  go_wp2_with (go_at_call 27; refine (sign_in _ _ (by decide) (by decide) _).mono ?_; rintro e w' ⟨rfl, rfl⟩)
  go_ret
  exact ⟨rfl, rfl⟩
theorem from_184 (a : BitVec 64) (w : World) : Calls Try.prog 17 #[.int .i64 184, .int .u64 (U a)] w (OfPost (U (cutB a 32)) w) := by
  have r2 := lowU32 a
  go_enter Try.func17, Try.ntmps17
  go_wp2
  go_ret
  exact ⟨rfl, rfl⟩
theorem from_185 (a : BitVec 64) (w : World) : Calls Try.prog 17 #[.int .i64 185, .int .u64 (U a)] w (OfPost (S (signSpec a 64)) w) := by
  go_enter Try.func17, Try.ntmps17
  go_wp2_with (go_at_call 27; refine (sign_in _ _ (by decide) (by decide) _).mono ?_; rintro e w' ⟨rfl, rfl⟩)
  go_ret
  exact ⟨rfl, rfl⟩
theorem from_186 (a : BitVec 64) (w : World) : Calls Try.prog 17 #[.int .i64 186, .int .u64 (U a)] w (OfPost (U a) w) := by
  go_enter Try.func17, Try.ntmps17
  go_wp2
  go_ret
  exact ⟨rfl, rfl⟩
/-- The whole number that a conversion from one takes. -/
def fromF (op : Int) (a : BitVec 64) : Int :=
  if op = 183 then S (signSpec a 32) else if op = 184 then U (cutB a 32) else if op = 185 then S (signSpec a 64) else U a
theorem from_any (op : Int) (h : op = 183 ∨ op = 184 ∨ op = 185 ∨ op = 186) (a : BitVec 64) (w : World) :
    Calls Try.prog 17 #[.int .i64 op, .int .u64 (U a)] w (OfPost (fromF op a) w) := by
  rcases h with rfl | rfl | rfl | rfl
  · rw [show fromF 183 a = S (signSpec a 32) by simp [fromF]]; exact from_183 a w
  · rw [show fromF 184 a = U (cutB a 32) by simp [fromF]]; exact from_184 a w
  · rw [show fromF 185 a = S (signSpec a 64) by simp [fromF]]; exact from_185 a w
  · rw [show fromF 186 a = U a by simp [fromF]]; exact from_186 a w

/-! ### to whole numbers -/
theorem order_facts (n L : Nat) (l : Int) (h : rung n ≤ 9218868437227405312) (hL : rung L ≤ 9218868437227405312) (hl : val L = l * (2 ^ E : Nat)) :
    (FloatKind.f64.format.order (integ .zero n) L == some .lt) = decide (tr n < l) ∧ (FloatKind.f64.format.order (integ .zero n) L == some .gt || FloatKind.f64.format.order (integ .zero n) L == some .eq) = decide (l ≤ tr n) := by
  have ho : FloatKind.f64.format.order (integ .zero n) L = some (compare (tr n) l) := order_trunc n L l h hL hl
  rw [ho]
  rcases Int.lt_trichotomy (tr n) l with g | g | g
  · rw [cmp_lt g, decide_eq_true g, decide_eq_false (by omega)]; exact ⟨rfl, rfl⟩
  · rw [cmp_eq g, decide_eq_false (by omega), decide_eq_true (by omega)]; exact ⟨rfl, rfl⟩
  · rw [cmp_gt g, decide_eq_false (by omega), decide_eq_true (by omega)]; exact ⟨rfl, rfl⟩
theorem val_pow (s : Bool) (k : Nat) (hk : k < 1024) : val (Ieee.double.word s ((1023 + k) * 4503599627370496)) = (if s then -(2 ^ k : Nat) else (2 ^ k : Nat) : Int) * (2 ^ E : Nat) := by
  rw [val_word _ _ (by omega), V_pow k hk]
  cases s <;> simp only [Bool.false_eq_true, if_false, if_true]
  · rw [Int.natCast_mul]
  · rw [Int.neg_mul, Int.natCast_mul]

/-- The bounds, by kind: 32 bits signed, unsigned, 64 bits signed, unsigned. -/
def loF (k : Nat) : Int := if k = 0 then -2147483648 else if k = 2 then -9223372036854775808 else 0
def hiF (k : Nat) : Int := if k = 0 then 2147483648 else if k = 1 then 4294967296 else if k = 2 then 9223372036854775808 else 18446744073709551616
def firstF (k : Nat) : BitVec 64 := if k = 0 then 2147483648#64 else if k = 2 then 9223372036854775808#64 else 0#64
def lastF (k : Nat) : BitVec 64 := if k = 0 then 2147483647#64 else if k = 1 then 4294967295#64 else if k = 2 then 9223372036854775807#64 else 18446744073709551615#64
def maskF (k : Nat) : BitVec 64 := if k < 2 then 4294967295#64 else 18446744073709551615#64
/-- What is cut off: the word, and the trap. -/
def tvF (k n : Nat) : BitVec 64 := if isNaN n then 0#64 else if tr n < loF k then firstF k else if hiF k ≤ tr n then lastF k else BitVec.ofInt 64 (tr n) &&& maskF k
def ttF (k n : Nat) : Int := if isNaN n then 4 else if tr n < loF k then 3 else if hiF k ≤ tr n then 3 else 0
theorem t_nan (k n : Nat) (h : isNaN n = true) : tvF k n = 0#64 ∧ ttF k n = 4 := by unfold tvF ttF; rw [h]; exact ⟨rfl, rfl⟩
theorem t_lo (k n : Nat) (h : isNaN n = false) (h1 : tr n < loF k) : tvF k n = firstF k ∧ ttF k n = 3 := by unfold tvF ttF; rw [h, if_pos h1, if_pos h1]; exact ⟨rfl, rfl⟩
theorem t_hi (k n : Nat) (h : isNaN n = false) (h1 : ¬ tr n < loF k) (h2 : hiF k ≤ tr n) : tvF k n = lastF k ∧ ttF k n = 3 := by unfold tvF ttF; rw [h, if_neg h1, if_neg h1, if_pos h2, if_pos h2]; exact ⟨rfl, rfl⟩
theorem t_in (k n : Nat) (h : isNaN n = false) (h1 : ¬ tr n < loF k) (h2 : ¬ hiF k ≤ tr n) : tvF k n = BitVec.ofInt 64 (tr n) &&& maskF k ∧ ttF k n = 0 := by unfold tvF ttF; rw [h, if_neg h1, if_neg h1, if_neg h2, if_neg h2]; exact ⟨rfl, rfl⟩

theorem half31 : floatOfInt .f64 2147483648 = 4746794007248502784 := by kernel_rfl
theorem half63 : floatOfInt .f64 9223372036854775808 = 4890909195324358656 := by kernel_rfl
theorem past32 (t : TypeId) (w : World) : (binOp .mul t (.float .f64 4611686018427387904) (.float .f64 4746794007248502784)).run Try.prog w = .ok (.float .f64 4751297606875873280) w :=
  run_float_arith w .mul t .f64 _ _ _ (by kernel_rfl)
theorem past64 (t : TypeId) (w : World) : (binOp .mul t (.float .f64 4611686018427387904) (.float .f64 4890909195324358656)).run Try.prog w = .ok (.float .f64 4895412794951729152) w :=
  run_float_arith w .mul t .f64 _ _ _ (by kernel_rfl)
theorem neg31 (w : World) : (Op.unary .neg (.float .f64 4746794007248502784)).run Try.prog w = .ok (.float .f64 13970166044103278592) w := by
  have e : Op.negFloat .f64 4746794007248502784 = 13970166044103278592 := by kernel_rfl
  change Result.ok (Value.float .f64 (Op.negFloat .f64 4746794007248502784)) w = _
  rw [e]
theorem neg63 (w : World) : (Op.unary .neg (.float .f64 4890909195324358656)).run Try.prog w = .ok (.float .f64 14114281232179134464) w := by
  have e : Op.negFloat .f64 4890909195324358656 = 14114281232179134464 := by kernel_rfl
  change Result.ok (Value.float .f64 (Op.negFloat .f64 4890909195324358656)) w = _
  rw [e]
theorem toI_run (n : Nat) (h : rung n ≤ 9218868437227405312) (h0 : -9223372036854775808 ≤ tr n) (h1 : tr n < 9223372036854775808) (w : World) :
    (convert 32 2 (.float .f64 (integ .zero n))).run Try.prog w = .ok (.int .i64 (tr n)) w := by
  refine run_convert_float_int w _ _ .f64 .i64 _ _ (by kernel_rfl) (by kernel_rfl) ?_
  unfold floatToIntVal
  have e : (FloatKind.f64.decode (integ .zero n)).toInt .zero = some (tr n) := toInt_trunc n h (by omega)
  rw [e]
  exact if_pos ⟨h0, by have : IntKind.max .i64 = 9223372036854775807 := rfl; omega⟩
theorem toU_run (n : Nat) (h : rung n ≤ 9218868437227405312) (h0 : 0 ≤ tr n) (h1 : tr n < 18446744073709551616) (w : World) :
    (convert 32 22 (.float .f64 (integ .zero n))).run Try.prog w = .ok (.int .u64 (tr n)) w := by
  refine run_convert_float_int w _ _ .f64 .u64 _ _ (by kernel_rfl) (by kernel_rfl) ?_
  unfold floatToIntVal
  have e : (FloatKind.f64.decode (integ .zero n)).toInt .zero = some (tr n) := toInt_trunc n h (by omega)
  rw [e]
  exact if_pos ⟨h0, by have : IntKind.max .u64 = 18446744073709551615 := rfl; omega⟩
theorem in_u (m : Int) (M : BitVec 64) (h0 : 0 ≤ m) (h1 : m ≤ U M) (hM : M = 4294967295#64 ∨ M = 18446744073709551615#64) : m = U (BitVec.ofInt 64 m &&& M) := by
  have hM2 := U_lt M
  rw [← andU, ← ofU m h0 (by omega)]
  obtain ⟨N, rfl⟩ : ∃ N : Nat, m = N := ⟨m.toNat, by omega⟩
  rcases hM with rfl | rfl
  · have e : U 4294967295#64 = ((4294967295 : Nat) : Int) := rfl
    rw [e] at h1 ⊢
    rw [bits_and_u64_nat _ _ (by omega) (by decide)]
    have := Nat.and_two_pow_sub_one_eq_mod N 32
    rw [show 2 ^ 32 - 1 = 4294967295 by rfl] at this
    rw [this]; omega
  · have e : U 18446744073709551615#64 = ((18446744073709551615 : Nat) : Int) := rfl
    rw [e] at h1 ⊢
    rw [bits_and_u64_nat _ _ (by omega) (by decide)]
    have := Nat.and_two_pow_sub_one_eq_mod N 64
    rw [show 2 ^ 64 - 1 = 18446744073709551615 by rfl] at this
    rw [this]; omega

/-- Beside a trap the word, and the trap. -/
def TPost (k n : Nat) (w : World) (e : Ending) (w' : World) : Prop := e = .returned (.tuple #[.int .u64 (U (tvF k n)), .int .i64 (ttF k n)]) ∧ w = w'

theorem trunc_nan (k : Nat) (bits : Int) (s : Bool) (n : Nat) (hn : isNaN n = true) (w : World) :
    Calls Try.prog 29 #[.float .f64 n, .int .i64 bits, .bool s] w (TPost k n w) := by
  unfold TPost
  rw [(t_nan k n hn).1, (t_nan k n hn).2]
  go_enter Try.func29, Try.ntmps29
  go_wp2_with (go_at_call 19; refine (isnan_any _ _).mono ?_; rintro e w' ⟨rfl, rfl⟩)
  go_ret2
  exact ⟨rfl, rfl⟩

theorem trunc_0 (n : Nat) (w : World) : Calls Try.prog 29 #[.float .f64 n, .int .i64 32, .bool true] w (TPost 0 n w) := by
  cases hn : isNaN n with
  | true => exact trunc_nan 0 32 true n hn w
  | false =>
    have hr := (isNaN_not n).mp hn
    have f1 := (order_facts n 13970166044103278592 (-2147483648) hr (by decide) (val_pow true 31 (by decide))).1
    have f2 := (order_facts n 4746794007248502784 2147483648 hr (by decide) (val_pow false 31 (by decide))).2
    have HR := Lib.hid hr
    have g1 := half31
    have g2 := past32
    have g6 := neg31
    have g3 := wrapI (tr n)
    have g4 : Go.bits .and .u64 (U (BitVec.ofInt 64 (tr n))) 4294967295 = U (BitVec.ofInt 64 (tr n) &&& 4294967295#64) := andU _ 4294967295#64
    unfold TPost
    by_cases c1 : tr n < -2147483648
    · rw [(t_lo 0 n hn c1).1, (t_lo 0 n hn c1).2]
      rw [decide_eq_true c1] at f1
      clear f2 c1 hr
      go_enter Try.func29, Try.ntmps29
      go_wp2_with (first | (go_at_call 19; refine (isnan_any _ _).mono ?_; rintro e w' ⟨rfl, rfl⟩) | (go_at_call 24; refine (trunc_num _ HR.out _).mono ?_; rintro e w' ⟨rfl, rfl⟩))
      go_ret2
      exact ⟨rfl, rfl⟩
    · by_cases c2 : 2147483648 ≤ tr n
      · rw [(t_hi 0 n hn c1 c2).1, (t_hi 0 n hn c1 c2).2]
        rw [decide_eq_false c1] at f1
        rw [decide_eq_true c2] at f2
        clear c1 c2 hr
        go_enter Try.func29, Try.ntmps29
        go_wp2_with (first | (go_at_call 19; refine (isnan_any _ _).mono ?_; rintro e w' ⟨rfl, rfl⟩) | (go_at_call 24; refine (trunc_num _ HR.out _).mono ?_; rintro e w' ⟨rfl, rfl⟩))
        go_ret2
        exact ⟨rfl, rfl⟩
      · rw [(t_in 0 n hn c1 c2).1, (t_in 0 n hn c1 c2).2]
        have g5 := toI_run n hr (by omega) (by omega)
        rw [decide_eq_false c1] at f1
        rw [decide_eq_false c2] at f2
        clear c1 c2 hr
        go_enter Try.func29, Try.ntmps29
        go_wp2_with (first | (go_at_call 19; refine (isnan_any _ _).mono ?_; rintro e w' ⟨rfl, rfl⟩) | (go_at_call 24; refine (trunc_num _ HR.out _).mono ?_; rintro e w' ⟨rfl, rfl⟩))
        go_ret2
        exact ⟨rfl, rfl⟩
theorem trunc_1 (n : Nat) (w : World) : Calls Try.prog 29 #[.float .f64 n, .int .i64 32, .bool false] w (TPost 1 n w) := by
  cases hn : isNaN n with
  | true => exact trunc_nan 1 32 false n hn w
  | false =>
    have hr := (isNaN_not n).mp hn
    have f1 := (order_facts n 0 0 hr (by decide) (by rw [val_zero, Int.zero_mul])).1
    have f2 := (order_facts n 4751297606875873280 4294967296 hr (by decide) (val_pow false 32 (by decide))).2
    have HR := Lib.hid hr
    have g1 := half31
    have g2 := past32
    unfold TPost
    by_cases c1 : tr n < 0
    · rw [(t_lo 1 n hn c1).1, (t_lo 1 n hn c1).2]
      rw [decide_eq_true c1] at f1
      clear f2 c1 hr
      go_enter Try.func29, Try.ntmps29
      go_wp2_with (first | (go_at_call 19; refine (isnan_any _ _).mono ?_; rintro e w' ⟨rfl, rfl⟩) | (go_at_call 24; refine (trunc_num _ HR.out _).mono ?_; rintro e w' ⟨rfl, rfl⟩))
      go_ret2
      exact ⟨rfl, rfl⟩
    · by_cases c2 : 4294967296 ≤ tr n
      · rw [(t_hi 1 n hn c1 c2).1, (t_hi 1 n hn c1 c2).2]
        rw [decide_eq_false c1] at f1
        rw [decide_eq_true c2] at f2
        clear c1 c2 hr
        go_enter Try.func29, Try.ntmps29
        go_wp2_with (first | (go_at_call 19; refine (isnan_any _ _).mono ?_; rintro e w' ⟨rfl, rfl⟩) | (go_at_call 24; refine (trunc_num _ HR.out _).mono ?_; rintro e w' ⟨rfl, rfl⟩))
        go_ret2
        exact ⟨rfl, rfl⟩
      · rw [(t_in 1 n hn c1 c2).1, (t_in 1 n hn c1 c2).2]
        have g5 := toU_run n hr (by omega) (by omega)
        have g6 := in_u (tr n) (maskF 1) (by omega) (by have : U (maskF 1) = 4294967295 := rfl; omega) (.inl rfl)
        rw [← g6]; clear g6
        rw [decide_eq_false c1] at f1
        rw [decide_eq_false c2] at f2
        clear c1 c2 hr
        go_enter Try.func29, Try.ntmps29
        go_wp2_with (first | (go_at_call 19; refine (isnan_any _ _).mono ?_; rintro e w' ⟨rfl, rfl⟩) | (go_at_call 24; refine (trunc_num _ HR.out _).mono ?_; rintro e w' ⟨rfl, rfl⟩))
        go_ret2
        exact ⟨rfl, rfl⟩
theorem trunc_2 (n : Nat) (w : World) : Calls Try.prog 29 #[.float .f64 n, .int .i64 64, .bool true] w (TPost 2 n w) := by
  cases hn : isNaN n with
  | true => exact trunc_nan 2 64 true n hn w
  | false =>
    have hr := (isNaN_not n).mp hn
    have f1 := (order_facts n 14114281232179134464 (-9223372036854775808) hr (by decide) (val_pow true 63 (by decide))).1
    have f2 := (order_facts n 4890909195324358656 9223372036854775808 hr (by decide) (val_pow false 63 (by decide))).2
    have HR := Lib.hid hr
    have g8 : IntKind.u64.wrap 18446744073709551616 = 0 := by decide
    have g9 : IntKind.u64.wrap (-1) = 18446744073709551615 := by decide
    have g1 := half63
    have g2 := past64
    have g6 := neg63
    have g3 := wrapI (tr n)
    have g4 : Go.bits .and .u64 (U (BitVec.ofInt 64 (tr n))) 18446744073709551615 = U (BitVec.ofInt 64 (tr n) &&& 18446744073709551615#64) := andU _ 18446744073709551615#64
    unfold TPost
    by_cases c1 : tr n < -9223372036854775808
    · rw [(t_lo 2 n hn c1).1, (t_lo 2 n hn c1).2]
      rw [decide_eq_true c1] at f1
      clear f2 c1 hr
      go_enter Try.func29, Try.ntmps29
      go_wp2_with (first | (go_at_call 19; refine (isnan_any _ _).mono ?_; rintro e w' ⟨rfl, rfl⟩) | (go_at_call 24; refine (trunc_num _ HR.out _).mono ?_; rintro e w' ⟨rfl, rfl⟩))
      go_ret2
      exact ⟨rfl, rfl⟩
    · by_cases c2 : 9223372036854775808 ≤ tr n
      · rw [(t_hi 2 n hn c1 c2).1, (t_hi 2 n hn c1 c2).2]
        rw [decide_eq_false c1] at f1
        rw [decide_eq_true c2] at f2
        clear c1 c2 hr
        go_enter Try.func29, Try.ntmps29
        go_wp2_with (first | (go_at_call 19; refine (isnan_any _ _).mono ?_; rintro e w' ⟨rfl, rfl⟩) | (go_at_call 24; refine (trunc_num _ HR.out _).mono ?_; rintro e w' ⟨rfl, rfl⟩))
        go_ret2
        exact ⟨rfl, rfl⟩
      · rw [(t_in 2 n hn c1 c2).1, (t_in 2 n hn c1 c2).2]
        have g5 := toI_run n hr (by omega) (by omega)
        rw [decide_eq_false c1] at f1
        rw [decide_eq_false c2] at f2
        clear c1 c2 hr
        go_enter Try.func29, Try.ntmps29
        go_wp2_with (first | (go_at_call 19; refine (isnan_any _ _).mono ?_; rintro e w' ⟨rfl, rfl⟩) | (go_at_call 24; refine (trunc_num _ HR.out _).mono ?_; rintro e w' ⟨rfl, rfl⟩))
        go_ret2
        exact ⟨rfl, rfl⟩
theorem trunc_3 (n : Nat) (w : World) : Calls Try.prog 29 #[.float .f64 n, .int .i64 64, .bool false] w (TPost 3 n w) := by
  cases hn : isNaN n with
  | true => exact trunc_nan 3 64 false n hn w
  | false =>
    have hr := (isNaN_not n).mp hn
    have f1 := (order_facts n 0 0 hr (by decide) (by rw [val_zero, Int.zero_mul])).1
    have f2 := (order_facts n 4895412794951729152 18446744073709551616 hr (by decide) (val_pow false 64 (by decide))).2
    have HR := Lib.hid hr
    have g8 : IntKind.u64.wrap 18446744073709551616 = 0 := by decide
    have g9 : IntKind.u64.wrap (-1) = 18446744073709551615 := by decide
    have g1 := half63
    have g2 := past64
    unfold TPost
    by_cases c1 : tr n < 0
    · rw [(t_lo 3 n hn c1).1, (t_lo 3 n hn c1).2]
      rw [decide_eq_true c1] at f1
      clear f2 c1 hr
      go_enter Try.func29, Try.ntmps29
      go_wp2_with (first | (go_at_call 19; refine (isnan_any _ _).mono ?_; rintro e w' ⟨rfl, rfl⟩) | (go_at_call 24; refine (trunc_num _ HR.out _).mono ?_; rintro e w' ⟨rfl, rfl⟩))
      go_ret2
      exact ⟨rfl, rfl⟩
    · by_cases c2 : 18446744073709551616 ≤ tr n
      · rw [(t_hi 3 n hn c1 c2).1, (t_hi 3 n hn c1 c2).2]
        rw [decide_eq_false c1] at f1
        rw [decide_eq_true c2] at f2
        clear c1 c2 hr
        go_enter Try.func29, Try.ntmps29
        go_wp2_with (first | (go_at_call 19; refine (isnan_any _ _).mono ?_; rintro e w' ⟨rfl, rfl⟩) | (go_at_call 24; refine (trunc_num _ HR.out _).mono ?_; rintro e w' ⟨rfl, rfl⟩))
        go_ret2
        exact ⟨rfl, rfl⟩
      · rw [(t_in 3 n hn c1 c2).1, (t_in 3 n hn c1 c2).2]
        have g5 := toU_run n hr (by omega) (by omega)
        have g6 := in_u (tr n) (maskF 3) (by omega) (by have : U (maskF 3) = 18446744073709551615 := rfl; omega) (.inr rfl)
        rw [← g6]; clear g6
        rw [decide_eq_false c1] at f1
        rw [decide_eq_false c2] at f2
        clear c1 c2 hr
        go_enter Try.func29, Try.ntmps29
        go_wp2_with (first | (go_at_call 19; refine (isnan_any _ _).mono ?_; rintro e w' ⟨rfl, rfl⟩) | (go_at_call 24; refine (trunc_num _ HR.out _).mono ?_; rintro e w' ⟨rfl, rfl⟩))
        go_ret2
        exact ⟨rfl, rfl⟩

/-- A word that is nought beside a trap. -/
def sv (t v : Int) : Int := if t = 0 then v else 0
theorem sv_no (t v : Int) (h : ¬ t = 0) : sv t v = 0 := if_neg h
theorem strict_any (v t : Int) (w : World) :
    Calls Try.prog 28 #[.int .u64 v, .int .i64 t] w fun e w' => e = .returned (.tuple #[.int .u64 (sv t v), .int .i64 t]) ∧ w = w' := by
  by_cases h : t = 0
  · subst h
    go_enter Try.func28, Try.ntmps28
    go_wp2
    go_ret2
    exact ⟨rfl, rfl⟩
  · rw [sv_no t v h]
    have h2 : (t != 0) = true := by simp [h]
    clear h
    go_enter Try.func28, Try.ntmps28
    go_wp2
    go_ret2
    exact ⟨rfl, rfl⟩
theorem lenient_any (v t : Int) (w : World) :
    Calls Try.prog 30 #[.int .u64 v, .int .i64 t] w fun e w' => e = .returned (.tuple #[.int .u64 v, .int .i64 0]) ∧ w = w' := by
  go_enter Try.func30, Try.ntmps30
  go_wp2
  go_ret2
  exact ⟨rfl, rfl⟩

/-- With traps: the word and the trap. -/
def StrictPost (k n : Nat) (w : World) (e : Ending) (w' : World) : Prop := e = .returned (.tuple #[.int .u64 (sv (ttF k n) (U (tvF k n))), .int .i64 (ttF k n)]) ∧ w = w'
/-- Without: the word. -/
def LenientPost (k n : Nat) (w : World) (e : Ending) (w' : World) : Prop := e = .returned (.tuple #[.int .u64 (U (tvF k n)), .int .i64 0]) ∧ w = w'
theorem whole_170 (n : Nat) (w : World) : Calls Try.prog 18 #[.int .i64 170, .float .f64 n] w (StrictPost 0 n w) := by
  go_enter Try.func18, Try.ntmps18
  go_wp2_with (first | (go_at_call 29; refine (trunc_0 _ _).mono ?_; rintro e w' ⟨rfl, rfl⟩) | (go_at_call 28; refine (strict_any _ _ _).mono ?_; rintro e w' ⟨rfl, rfl⟩))
  go_ret2
  exact ⟨rfl, rfl⟩
theorem whole_171 (n : Nat) (w : World) : Calls Try.prog 18 #[.int .i64 171, .float .f64 n] w (StrictPost 1 n w) := by
  go_enter Try.func18, Try.ntmps18
  go_wp2_with (first | (go_at_call 29; refine (trunc_1 _ _).mono ?_; rintro e w' ⟨rfl, rfl⟩) | (go_at_call 28; refine (strict_any _ _ _).mono ?_; rintro e w' ⟨rfl, rfl⟩))
  go_ret2
  exact ⟨rfl, rfl⟩
theorem whole_176 (n : Nat) (w : World) : Calls Try.prog 18 #[.int .i64 176, .float .f64 n] w (StrictPost 2 n w) := by
  go_enter Try.func18, Try.ntmps18
  go_wp2_with (first | (go_at_call 29; refine (trunc_2 _ _).mono ?_; rintro e w' ⟨rfl, rfl⟩) | (go_at_call 28; refine (strict_any _ _ _).mono ?_; rintro e w' ⟨rfl, rfl⟩))
  go_ret2
  exact ⟨rfl, rfl⟩
theorem whole_177 (n : Nat) (w : World) : Calls Try.prog 18 #[.int .i64 177, .float .f64 n] w (StrictPost 3 n w) := by
  go_enter Try.func18, Try.ntmps18
  go_wp2_with (first | (go_at_call 29; refine (trunc_3 _ _).mono ?_; rintro e w' ⟨rfl, rfl⟩) | (go_at_call 28; refine (strict_any _ _ _).mono ?_; rintro e w' ⟨rfl, rfl⟩))
  go_ret2
  exact ⟨rfl, rfl⟩
theorem whole_64514 (n : Nat) (w : World) : Calls Try.prog 18 #[.int .i64 64514, .float .f64 n] w (LenientPost 0 n w) := by
  go_enter Try.func18, Try.ntmps18
  go_wp2_with (first | (go_at_call 29; refine (trunc_0 _ _).mono ?_; rintro e w' ⟨rfl, rfl⟩) | (go_at_call 30; refine (lenient_any _ _ _).mono ?_; rintro e w' ⟨rfl, rfl⟩))
  go_ret2
  exact ⟨rfl, rfl⟩
theorem whole_64515 (n : Nat) (w : World) : Calls Try.prog 18 #[.int .i64 64515, .float .f64 n] w (LenientPost 1 n w) := by
  go_enter Try.func18, Try.ntmps18
  go_wp2_with (first | (go_at_call 29; refine (trunc_1 _ _).mono ?_; rintro e w' ⟨rfl, rfl⟩) | (go_at_call 30; refine (lenient_any _ _ _).mono ?_; rintro e w' ⟨rfl, rfl⟩))
  go_ret2
  exact ⟨rfl, rfl⟩
theorem whole_64518 (n : Nat) (w : World) : Calls Try.prog 18 #[.int .i64 64518, .float .f64 n] w (LenientPost 2 n w) := by
  go_enter Try.func18, Try.ntmps18
  go_wp2_with (first | (go_at_call 29; refine (trunc_2 _ _).mono ?_; rintro e w' ⟨rfl, rfl⟩) | (go_at_call 30; refine (lenient_any _ _ _).mono ?_; rintro e w' ⟨rfl, rfl⟩))
  go_ret2
  exact ⟨rfl, rfl⟩
theorem whole_64519 (n : Nat) (w : World) : Calls Try.prog 18 #[.int .i64 64519, .float .f64 n] w (LenientPost 3 n w) := by
  go_enter Try.func18, Try.ntmps18
  go_wp2_with (first | (go_at_call 29; refine (trunc_3 _ _).mono ?_; rintro e w' ⟨rfl, rfl⟩) | (go_at_call 30; refine (lenient_any _ _ _).mono ?_; rintro e w' ⟨rfl, rfl⟩))
  go_ret2
  exact ⟨rfl, rfl⟩
end Go.Proofs.Ytejpbhgbafapoaa
