/-
  FloatsRounds: whatever the word, the statement's function returns true: the walk, and what is true of rounding.
-/
import Derived.Test.YtejpbhgbafapoaaFOrder
namespace Go.Proofs.Ytejpbhgbafapoaa
open Go.RowKit

theorem d155z (a : BitVec 64) (w : World) : Calls Try.prog 7 #[.int .i64 155, .int .u64 (U a), .int .u64 0] w (DoPost (Wq (intBits .up a.toNat)) 0 w) := do_one 155 (by decide) a 0#64 w
theorem d156z (a : BitVec 64) (w : World) : Calls Try.prog 7 #[.int .i64 156, .int .u64 (U a), .int .u64 0] w (DoPost (Wq (intBits .down a.toNat)) 0 w) := do_one 156 (by decide) a 0#64 w
theorem d157z (a : BitVec 64) (w : World) : Calls Try.prog 7 #[.int .i64 157, .int .u64 (U a), .int .u64 0] w (DoPost (Wq (intBits .zero a.toNat)) 0 w) := do_one 157 (by decide) a 0#64 w
theorem d158z (a : BitVec 64) (w : World) : Calls Try.prog 7 #[.int .i64 158, .int .u64 (U a), .int .u64 0] w (DoPost (Wq (intBits .even a.toNat)) 0 w) := do_one 158 (by decide) a 0#64 w
theorem d102 (a b : BitVec 64) (w : World) : Calls Try.prog 7 #[.int .i64 102, .int .u64 (U a), .int .u64 (U b)] w (DoPost (tw (cmpF 102 a.toNat b.toNat)) 0 w) := do_cmp 102 (by decide) a b w
theorem d99z (a : BitVec 64) (w : World) : Calls Try.prog 7 #[.int .i64 99, .int .u64 (U a), .int .u64 0] w (DoPost (tw (cmpF 99 a.toNat 0)) 0 w) := do_cmp 99 (by decide) a 0#64 w

/-- A word made whole, as a word. -/
def intW (way : Ieee.Toward) (a : BitVec 64) : BitVec 64 := BitVec.ofNat 64 (integ way a.toNat)
theorem intW_nat (way : Ieee.Toward) (a : BitVec 64) : (intW way a).toNat = integ way a.toNat := by
  unfold intW; rw [BitVec.toNat_ofNat, Nat.mod_eq_of_lt (integ_lt _ _)]
theorem intW_num (way : Ieee.Toward) (a : BitVec 64) (h : isNaN a.toNat = false) : isNaN (intW way a).toNat = false := by
  rw [intW_nat, isNaN_not]
  exact (integ_parts way _ ((isNaN_not _).mp h)).2.1
theorem wq_int (way : Ieee.Toward) (a : BitVec 64) (h : isNaN a.toNat = false) : Wq (intBits way a.toNat) = intW way a := by
  unfold intBits; rw [h]
  simp only [Bool.false_eq_true, if_false]
  rw [← intW_nat]; exact wq_self _ (intW_num way a h)
theorem wq_int_nan (way : Ieee.Toward) (a : BitVec 64) (h : isNaN a.toNat = true) : Wq (intBits way a.toNat) = 9221120237041090560#64 := by
  unfold intBits; rw [h]; rfl
theorem intW_twice (w1 w2 : Ieee.Toward) (a : BitVec 64) (h : isNaN a.toNat = false) : Wq (intBits w1 (intW w2 a).toNat) = intW w2 a := by
  rw [wq_int _ _ (intW_num w2 a h)]
  apply BitVec.eq_of_toNat_eq
  rw [intW_nat, intW_nat]
  exact integ_integ _ _ _ ((isNaN_not _).mp h)
theorem intW_congr (w1 w2 : Ieee.Toward) (a : BitVec 64) (h : integ w1 a.toNat = integ w2 a.toNat) : intW w1 a = intW w2 a := by
  unfold intW; rw [h]
theorem cmp_of (x y : Nat) (hx : rung x ≤ 9218868437227405312) (hy : rung y ≤ 9218868437227405312) :
    cmpF 97 x y = decide (val x = val y) ∧ cmpF 99 x y = decide (val x < val y) ∧ cmpF 101 x y = decide (val x ≤ val y) ∧ cmpF 102 x y = decide (val y ≤ val x) := by
  have ho := order_num x y hx hy
  have e97 : cmpF 97 x y = (Ieee.double.order x y == some .eq) := rfl
  have e99 : cmpF 99 x y = (Ieee.double.order x y == some .lt) := rfl
  have e101 : cmpF 101 x y = (Ieee.double.order x y == some .lt || Ieee.double.order x y == some .eq) := rfl
  have e102 : cmpF 102 x y = (Ieee.double.order x y == some .gt || Ieee.double.order x y == some .eq) := rfl
  rw [e97, e99, e101, e102, ho]
  rcases Int.lt_trichotomy (val x) (val y) with g | g | g
  · rw [cmp_lt g, decide_eq_false (by omega), decide_eq_true g, decide_eq_true (by omega), decide_eq_false (by omega)]; exact ⟨rfl, rfl, rfl, rfl⟩
  · rw [cmp_eq g, decide_eq_true g, decide_eq_false (by omega), decide_eq_true (by omega), decide_eq_true (by omega)]; exact ⟨rfl, rfl, rfl, rfl⟩
  · rw [cmp_gt g, decide_eq_false (by omega), decide_eq_false (by omega), decide_eq_false (by omega), decide_eq_true (by omega)]; exact ⟨rfl, rfl, rfl, rfl⟩
theorem sign_bit (way : Ieee.Toward) (a : BitVec 64) (h : isNaN a.toNat = false) : U (intW way a) / 9223372036854775808 = U a / 9223372036854775808 := by
  have hs := (integ_parts way _ ((isNaN_not _).mp h)).1
  have h1 := a.isLt
  have h2 := integ_lt way a.toNat
  unfold U
  rw [intW_nat]
  have key : ∀ n, n < 18446744073709551616 → n / 9223372036854775808 = (sgn n).toNat := by
    intro n hn
    unfold sgn
    have : n / 9223372036854775808 < 2 := by omega
    rcases (show n / 9223372036854775808 = 0 ∨ n / 9223372036854775808 = 1 by omega) with e | e <;> rw [e] <;> rfl
  have k1 := key _ h1
  have k2 := key _ h2
  rw [hs] at k2
  omega

set_option maxRecDepth 100000 in
theorem rounds_nan (a : BitVec 64) (na : isNaN a.toNat = true) (w : World) :
    Calls Try.prog 5 #[.int .u64 (U a)] w (BoolPost true w) := by
  have f1 := wq_int_nan .up a na
  have f2 := wq_int_nan .down a na
  have f3 := wq_int_nan .zero a na
  have f4 := wq_int_nan .even a na
  have l2 : U 9221120237041090560#64 = 9221120237041090560 := rfl
  have hacc := Below.refl w.heap.size w
  go_enter Try.func5, Try.ntmps5
  go_wp2_with (first
    | (go_at_call 7; (first | (with_reducible refine (d155z _ _).mono ?_) | (with_reducible refine (d156z _ _).mono ?_) | (with_reducible refine (d157z _ _).mono ?_) | (with_reducible refine (d158z _ _).mono ?_)); rintro e w' ⟨rfl, k, rfl⟩)
    | (go_at_call 8; refine (nan_any _ _).mono ?_; rintro e w' ⟨rfl, rfl⟩)
    | (go_at_call 9; refine (known_any _).mono ?_; rintro e w' ⟨rfl, hb⟩; replace hacc := below_then (below_drewN hacc _) hb))
  all_goals
    go_ret
    exact ⟨rfl, hacc⟩

set_option maxRecDepth 100000 in
theorem rounds_num (a u d c n : BitVec 64) (ng : Bool) (na : isNaN a.toNat = false) (f1 : Wq (intBits .up a.toNat) = u) (f2 : Wq (intBits .down a.toNat) = d) (f3 : Wq (intBits .zero a.toNat) = c) (f4 : Wq (intBits .even a.toNat) = n)
    (g1 : cmpF 101 d.toNat a.toNat = true) (g2 : cmpF 102 u.toNat a.toNat = true) (g3 : cmpF 99 a.toNat 0 = ng) (g4 : Wq (intBits .up u.toNat) = u) (g5 : Wq (intBits .even n.toNat) = n)
    (g6 : cmpF 97 c.toNat (if ng then u else d).toNat = true) (g7 : n = u ∨ n = d) (g8 : U c / 9223372036854775808 = U a / 9223372036854775808) (w : World) :
    Calls Try.prog 5 #[.int .u64 (U a)] w (BoolPost true w) := by
  have t0 := tw_no
  have t1 := tw_yes
  have hacc := Below.refl w.heap.size w
  cases ng <;> simp only [Bool.false_eq_true, if_false, if_true] at g6 <;> rcases g7 with rfl | rfl <;>
  · go_enter Try.func5, Try.ntmps5
    go_wp2_with (first
      | (go_at_call 7; (first | (with_reducible refine (d155z _ _).mono ?_) | (with_reducible refine (d156z _ _).mono ?_) | (with_reducible refine (d157z _ _).mono ?_) | (with_reducible refine (d158z _ _).mono ?_) | (with_reducible refine (d101 _ _ _).mono ?_) | (with_reducible refine (d102 _ _ _).mono ?_) | (with_reducible refine (d99z _ _).mono ?_) | (with_reducible refine (d97 _ _ _).mono ?_)); rintro e w' ⟨rfl, k, rfl⟩)
      | (go_at_call 8; refine (nan_any _ _).mono ?_; rintro e w' ⟨rfl, rfl⟩)
      | (go_at_call 9; refine (known_any _).mono ?_; rintro e w' ⟨rfl, hb⟩; replace hacc := below_then (below_drewN hacc _) hb))
    all_goals
      go_ret
      exact ⟨rfl, hacc⟩

theorem rounds_any (a : BitVec 64) (w : World) :
    Calls Try.prog 5 #[.int .u64 (U a)] w (BoolPost true w) := by
  cases na : isNaN a.toNat with
  | true => exact rounds_nan a na w
  | false =>
    have h := (isNaN_not _).mp na
    have hi := fun way => (isNaN_not _).mp (intW_num way a na)
    refine rounds_num a (intW .up a) (intW .down a) (intW .zero a) (intW .even a) (decide (val a.toNat < 0)) na (wq_int _ _ na) (wq_int _ _ na) (wq_int _ _ na) (wq_int _ _ na) ?_ ?_ ?_ (intW_twice _ _ _ na) (intW_twice _ _ _ na) ?_ ?_ (sign_bit _ _ na) w
    · rw [(cmp_of _ _ (hi .down) h).2.2.1, intW_nat]
      exact decide_eq_true (down_le _ h)
    · rw [(cmp_of _ _ (hi .up) h).2.2.2, intW_nat]
      exact decide_eq_true (le_up _ h)
    · rw [(cmp_of _ 0 h (by decide)).2.1, val_zero]
    · by_cases hv : val a.toNat < 0
      · rw [decide_eq_true hv]
        simp only [if_true]
        rw [intW_congr .zero .up a (cut_neg _ h ((val_neg _).mp hv).1), (cmp_of _ _ (hi .up) (hi .up)).1]
        exact decide_eq_true rfl
      · rw [decide_eq_false hv]
        simp only [Bool.false_eq_true, if_false]
        have e : integ .zero a.toNat = integ .down a.toNat := by
          by_cases h0 : rung a.toNat = 0
          · exact cut_nought _ h0
          · cases hs : sgn a.toNat with
            | false => exact cut_pos _ h hs
            | true => exact absurd ((val_neg _).mpr ⟨hs, h0⟩) hv
        rw [intW_congr .zero .down a e, (cmp_of _ _ (hi .down) (hi .down)).1]
        exact decide_eq_true rfl
    · rcases even_either _ h with e | e
      · exact .inl (intW_congr _ _ a e)
      · exact .inr (intW_congr _ _ a e)
end Go.Proofs.Ytejpbhgbafapoaa
