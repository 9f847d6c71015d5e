/-
  Contracts of the document's answer: its Do and Is: the same plain functions as ints.Do and ints.Is give.
-/
import Derived.Test.YtjnmcaokcjkagaaWrAr
namespace Go.Proofs.Ytjnmcaokcjkagaa
open Go.RowKit

/-! ### Do -/
set_option maxRecDepth 100000 in
theorem rdo_conv (op : Int) (a b : BitVec 64) (c : op = 167 ∨ op = 173 ∨ op = 172 ∨ op = 192 ∨ op = 193 ∨ op = 194 ∨ op = 195 ∨ op = 196) (w : World) :
    Calls Try.prog 17 #[.int .i64 op, .int .u64 (U a), .int .u64 (U b)] w (doPost (convB op a, 0) w) := by
  have r1 := toU
  have r2 := lowU
  rcases c with rfl | rfl | rfl | rfl | rfl | rfl | rfl | rfl
  all_goals
    go_enter Try.func17, Try.ntmps17
    go_wp2_with (go_at_call 13; refine (rsign_any _ _ _).mono ?_; rintro e w' ⟨rfl, rfl⟩)
    go_ret2
    exact ⟨rfl, 0, rfl⟩

set_option maxRecDepth 100000 in
theorem rdo_none (op : Int) (a b : BitVec 64) (c : op < 69 ∨ 90 < op ∧ op < 103 ∨ 138 < op ∧ op < 167 ∨ 167 < op ∧ op < 172 ∨ 173 < op ∧ op < 192 ∨ 196 < op) (w : World) :
    Calls Try.prog 17 #[.int .i64 op, .int .u64 (U a), .int .u64 (U b)] w (doPost (0#64, 0) w) := by
  have e1 : (op == 69) = false := by simp; omega
  have e2 : (op == 80) = false := by simp; omega
  have e3 : (op == 167) = false := by simp; omega
  have e4 : (op == 172) = false := by simp; omega
  have e5 : (op == 173) = false := by simp; omega
  have e6 : (op == 192) = false := by simp; omega
  have e7 : (op == 193) = false := by simp; omega
  rcases c with h | ⟨h, g⟩ | ⟨h, g⟩ | ⟨h, g⟩ | ⟨h, g⟩ | h
  all_goals
    go_enter Try.func17, Try.ntmps17
    go_wp2
    go_ret2
    exact ⟨rfl, 0, rfl⟩

set_option maxRecDepth 100000 in
theorem rdo_69 (a b : BitVec 64) (w : World) :
    Calls Try.prog 17 #[.int .i64 69, .int .u64 (U a), .int .u64 (U b)] w (doPost (tw (cmpAt 0 32 (cutB a 32) (cutB b 32)), 0) w) := by
  have r2 := lowU
  go_enter Try.func17, Try.ntmps17
  go_wp2_with (go_at_call 21; refine (yes_any _ _).mono ?_; rintro e w' ⟨rfl, rfl⟩)
  go_ret2
  exact ⟨rfl, 0, rfl⟩

set_option maxRecDepth 100000 in
theorem rdo_80 (a b : BitVec 64) (w : World) :
    Calls Try.prog 17 #[.int .i64 80, .int .u64 (U a), .int .u64 (U b)] w (doPost (tw (cmpAt 0 64 a b), 0) w) := by
  go_enter Try.func17, Try.ntmps17
  go_wp2_with (go_at_call 21; refine (yes_any _ _).mono ?_; rintro e w' ⟨rfl, rfl⟩)
  go_ret2
  exact ⟨rfl, 0, rfl⟩

set_option maxRecDepth 100000 in
theorem rdo_c32 (op : Int) (a b : BitVec 64) (h0 : 70 ≤ op) (h1 : op ≤ 79) (w : World) :
    Calls Try.prog 17 #[.int .i64 op, .int .u64 (U a), .int .u64 (U b)] w (doPost (tw (cmpAt (op - 70 + 1) 32 (cutB a 32) (cutB b 32)), 0) w) := by
  have r2 := lowU
  have h2 : 0 ≤ op - 70 := by omega
  have e1 : (op == 69) = false := by simp; omega
  go_enter Try.func17, Try.ntmps17
  go_wp2_with (go_at_call 22; refine (rcompare_any _ _ _ _ (by omega) _).mono ?_; rintro e w' ⟨rfl, rfl⟩)
  go_ret2
  exact ⟨rfl, 0, rfl⟩

set_option maxRecDepth 100000 in
theorem rdo_c64 (op : Int) (a b : BitVec 64) (h0 : 81 ≤ op) (h1 : op ≤ 90) (w : World) :
    Calls Try.prog 17 #[.int .i64 op, .int .u64 (U a), .int .u64 (U b)] w (doPost (tw (cmpAt (op - 81 + 1) 64 a b), 0) w) := by
  have h2 : 0 ≤ op - 81 := by omega
  have e1 : (op == 69) = false := by simp; omega
  have e2 : (op == 80) = false := by simp; omega
  have d1 : decide (op ≤ 79) = false := by simp; omega
  go_enter Try.func17, Try.ntmps17
  go_wp2_with (go_at_call 22; refine (rcompare_any _ _ _ _ (by omega) _).mono ?_; rintro e w' ⟨rfl, rfl⟩)
  go_ret2
  exact ⟨rfl, 0, rfl⟩

set_option maxRecDepth 100000 in
theorem rdo_a32 (op : Int) (a b : BitVec 64) (h0 : 103 ≤ op) (h1 : op ≤ 120) (w : World) :
    Calls Try.prog 17 #[.int .i64 op, .int .u64 (U a), .int .u64 (U b)] w (doPost (cutB (arRaw (op - 103) 32 (cutB a 32) (cutB b 32)).1 32, (arRaw (op - 103) 32 (cutB a 32) (cutB b 32)).2) w) := by
  have HA := Lib.hid (arith_any (op - 103) 32 (cutB a 32) (cutB b 32) (by omega) (by omega) (by decide) (cutB_lt a 32 (by decide)) (cutB_lt b 32 (by decide)))
  have e1 : (op == 69) = false := by simp; omega
  have e2 : (op == 80) = false := by simp; omega
  have d1 : decide (op ≤ 79) = false := by simp; omega
  have d2 : decide (op ≤ 90) = false := by simp; omega
  go_enter Try.func17, Try.ntmps17
  go_wp2_with (go_at_call 23; rw [lowU, lowU]; refine (HA.out _).mono ?_; rintro e w' ⟨rfl, k, rfl⟩)
  go_ret2
  exact ⟨ret_two (lowU _) rfl, _, rfl⟩

set_option maxRecDepth 100000 in
theorem rdo_a64 (op : Int) (a b : BitVec 64) (h0 : 121 ≤ op) (h1 : op ≤ 138) (w : World) :
    Calls Try.prog 17 #[.int .i64 op, .int .u64 (U a), .int .u64 (U b)] w (doPost (arRaw (op - 121) 64 a b) w) := by
  have HA := Lib.hid (arith_any (op - 121) 64 a b (by omega) (by omega) (by decide) a.isLt b.isLt)
  have e1 : (op == 69) = false := by simp; omega
  have e2 : (op == 80) = false := by simp; omega
  have d1 : decide (op ≤ 79) = false := by simp; omega
  have d2 : decide (op ≤ 90) = false := by simp; omega
  have d3 : decide (op ≤ 120) = false := by simp; omega
  go_enter Try.func17, Try.ntmps17
  go_wp2_with (go_at_call 23; refine (HA.out _).mono ?_; rintro e w' ⟨rfl, k, rfl⟩)
  go_ret2
  exact ⟨rfl, _, rfl⟩

theorem rdo_any (op : Int) (a b : BitVec 64) (w : World) :
    Calls Try.prog 17 #[.int .i64 op, .int .u64 (U a), .int .u64 (U b)] w (doPost (doB op a b) w) := by
  by_cases c : op < 69 ∨ 90 < op ∧ op < 103 ∨ 138 < op
  · rw [do_conv op a b c]
    by_cases d : op = 167 ∨ op = 173 ∨ op = 172 ∨ op = 192 ∨ op = 193 ∨ op = 194 ∨ op = 195 ∨ op = 196
    · exact rdo_conv op a b d w
    · rw [← conv_else op a (by omega)]
      exact rdo_none op a b (by omega) w
  · by_cases c0 : op = 69
    · subst c0
      rw [do_c32 69 a b (by decide) (by decide)]
      exact rdo_69 a b w
    · by_cases c1 : op ≤ 79
      · rw [do_c32 op a b (by omega) c1, show op - 69 = op - 70 + 1 by omega]
        exact rdo_c32 op a b (by omega) c1 w
      · by_cases c2 : op = 80
        · subst c2
          rw [do_c64 80 a b (by decide) (by decide)]
          exact rdo_80 a b w
        · by_cases c3 : op ≤ 90
          · rw [do_c64 op a b (by omega) c3, show op - 80 = op - 81 + 1 by omega]
            exact rdo_c64 op a b (by omega) c3 w
          · by_cases c4 : op ≤ 120
            · rw [do_a32 op a b (by omega) c4]
              exact rdo_a32 op a b (by omega) c4 w
            · rw [do_a64 op a b (by omega) (by omega)]
              exact rdo_a64 op a b (by omega) (by omega) w

/-! ### Is -/
theorem ris_yes (op : Int) (c : 69 ≤ op ∧ op ≤ 90 ∨ 103 ≤ op ∧ op ≤ 138 ∨ op = 167 ∨ op = 172 ∨ op = 173) (w : World) :
    Calls Try.prog 9 #[.int .i64 op] w fun e w' => e = .returned (.bool true) ∧ w = w' := by
  rcases c with ⟨h, g⟩ | ⟨h, g⟩ | rfl | rfl | rfl
  all_goals
    go_enter Try.func9, Try.ntmps9
    go_wp2
    go_ret
    exact ⟨rfl, rfl⟩

theorem ris_top (op : Int) (h : 192 ≤ op) (b : Bool) (hb : decide (op ≤ 196) = b) (w : World) :
    Calls Try.prog 9 #[.int .i64 op] w fun e w' => e = .returned (.bool b) ∧ w = w' := by
  have e1 : (op == 167) = false := by simp; omega
  have e2 : (op == 172) = false := by simp; omega
  have e3 : (op == 173) = false := by simp; omega
  have d2 : decide (op ≤ 138) = false := by simp; omega
  have d3 : decide (op ≤ 90) = false := by simp; omega
  have HB := Lib.hid hb
  clear hb
  go_enter Try.func9, Try.ntmps9
  go_wp2
  all_goals go_ret
  all_goals exact ⟨ret_bool HB.out, rfl⟩

theorem ris_no (op : Int) (c : op < 69 ∨ 90 < op ∧ op < 103 ∨ 138 < op ∧ op < 167 ∨ 167 < op ∧ op < 172 ∨ 173 < op ∧ op < 192) (w : World) :
    Calls Try.prog 9 #[.int .i64 op] w fun e w' => e = .returned (.bool false) ∧ w = w' := by
  have e1 : (op == 167) = false := by simp; omega
  have e2 : (op == 172) = false := by simp; omega
  have e3 : (op == 173) = false := by simp; omega
  rcases c with h | ⟨h, g⟩ | ⟨h, g⟩ | ⟨h, g⟩ | ⟨h, g⟩
  all_goals
    go_enter Try.func9, Try.ntmps9
    go_wp2
    go_ret
    first | exact ⟨rfl, rfl⟩ | exact ⟨ret_bool (by simp; omega), rfl⟩

theorem ris_any (op : Int) (w : World) :
    Calls Try.prog 9 #[.int .i64 op] w fun e w' => e = .returned (.bool (isB op)) ∧ w = w' := by
  by_cases h : 192 ≤ op
  · exact ris_top op h _ (by unfold isB; rw [decide_eq_decide]; omega) w
  · by_cases c : 69 ≤ op ∧ op ≤ 90 ∨ 103 ≤ op ∧ op ≤ 138 ∨ op = 167 ∨ op = 172 ∨ op = 173
    · rw [show isB op = true from decide_eq_true (by omega)]; exact ris_yes op c w
    · rw [show isB op = false from decide_eq_false (by omega)]; exact ris_no op (by omega) w
end Go.Proofs.Ytjnmcaokcjkagaa
