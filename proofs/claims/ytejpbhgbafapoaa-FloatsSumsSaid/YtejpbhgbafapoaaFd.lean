/-
  Contracts of floats.Do: what it gives for each operation, for any words.
-/
import Derived.Test.YtejpbhgbafapoaaFk
namespace Go.Proofs.Ytejpbhgbafapoaa
open Go.RowKit

/-- The word x and the trap t come back; some answers are drawn. -/
def DoPost (x : BitVec 64) (t : Int) (w : World) (e : Ending) (w' : World) : Prop := e = .returned (.tuple #[.int .u64 (U x), .int .i64 t]) ∧ ∃ k, w' = w.drewN k

theorem do_cmp (op : Int) (h : op = 97 ∨ op = 98 ∨ op = 99 ∨ op = 100 ∨ op = 101 ∨ op = 102) (a b : BitVec 64) (w : World) :
    Calls Try.prog 7 #[.int .i64 op, .int .u64 (U a), .int .u64 (U b)] w (DoPost (tw (cmpF op a.toNat b.toNat)) 0 w) := by
  have r1 := frombits_run a
  have r2 := frombits_run b
  rcases h with rfl | rfl | rfl | rfl | rfl | rfl <;>
  · go_enter Try.func7, Try.ntmps7
    go_wp2_with (first | (go_at_call 12; refine (compare_any _ (by decide) _ _ _).mono ?_; rintro e w' ⟨rfl, rfl⟩) | (go_at_call 11; refine (truth_any _ _).mono ?_; rintro e w' ⟨rfl, rfl⟩))
    go_ret2
    exact ⟨rfl, 0, rfl⟩
theorem do_sgn (op : Int) (h : op = 153 ∨ op = 154 ∨ op = 166) (a b : BitVec 64) (w : World) :
    Calls Try.prog 7 #[.int .i64 op, .int .u64 (U a), .int .u64 (U b)] w (DoPost (sgF op a b) 0 w) := by
  have r1 := frombits_run a
  have r2 := frombits_run b
  rcases h with rfl | rfl | rfl <;>
  · go_enter Try.func7, Try.ntmps7
    go_wp2_with (go_at_call 13; refine (sign_any _ (by decide) _ _ _).mono ?_; rintro e w' ⟨rfl, rfl⟩)
    go_ret2
    exact ⟨rfl, 0, rfl⟩
theorem do_one (op : Int) (h : op = 155 ∨ op = 156 ∨ op = 157 ∨ op = 158) (a b : BitVec 64) (w : World) :
    Calls Try.prog 7 #[.int .i64 op, .int .u64 (U a), .int .u64 (U b)] w (DoPost (Wq (intBits (wayF op) a.toNat)) 0 w) := by
  have r1 := frombits_run a
  have r2 := frombits_run b
  rcases h with rfl | rfl | rfl | rfl <;>
  · go_enter Try.func7, Try.ntmps7
    go_wp2_with (first | (go_at_call 15; refine (single_any _ (by decide) _ a.isLt _).mono ?_; rintro e w' ⟨z, k, rfl, hz, hq, rfl⟩; have HZ := Lib.hid hz; have HQ := Lib.hid hq; clear hz hq) | (go_at_call 14; refine (bitsof_any _ HZ.out _ HQ.out _).mono ?_; rintro e w' ⟨rfl, rfl⟩))
    go_ret2
    exact ⟨rfl, _, rfl⟩
theorem do_two (op : Int) (h : op = 160 ∨ op = 161 ∨ op = 162 ∨ op = 163 ∨ op = 164 ∨ op = 165) (a b : BitVec 64) (w : World) :
    Calls Try.prog 7 #[.int .i64 op, .int .u64 (U a), .int .u64 (U b)] w (DoPost (Wq (bothF op a.toNat b.toNat)) 0 w) := by
  have r1 := frombits_run a
  have r2 := frombits_run b
  rcases h with rfl | rfl | rfl | rfl | rfl | rfl <;>
  · go_enter Try.func7, Try.ntmps7
    go_wp2_with (first | (go_at_call 16; refine (combine_any _ (by decide) _ _ a.isLt b.isLt _).mono ?_; rintro e w' ⟨z, k, rfl, hz, hq, rfl⟩; have HZ := Lib.hid hz; have HQ := Lib.hid hq; clear hz hq) | (go_at_call 14; refine (bitsof_any _ HZ.out _ HQ.out _).mono ?_; rintro e w' ⟨rfl, rfl⟩))
    go_ret2
    exact ⟨rfl, _, rfl⟩
theorem ofI_lt (m : Int) : floatOfInt .f64 m < 18446744073709551616 := Ieee.double.nearest_lt ..
theorem do_from (op : Int) (h : op = 183 ∨ op = 184 ∨ op = 185 ∨ op = 186) (a b : BitVec 64) (w : World) :
    Calls Try.prog 7 #[.int .i64 op, .int .u64 (U a), .int .u64 (U b)] w (DoPost (Wq (some (floatOfInt .f64 (fromF op a)))) 0 w) := by
  have r1 := frombits_run a
  have r2 := frombits_run b
  rcases h with rfl | rfl | rfl | rfl <;>
  · go_enter Try.func7, Try.ntmps7
    go_wp2_with (first | (go_at_call 17; refine (from_any _ (by decide) _ _).mono ?_; rintro e w' ⟨rfl, rfl⟩) | (go_at_call 14; refine (bitsof_any _ (ofI_lt _) _ rfl _).mono ?_; rintro e w' ⟨rfl, rfl⟩))
    go_ret2
    exact ⟨rfl, 0, rfl⟩
def svW (t : Int) (x : BitVec 64) : BitVec 64 := if t = 0 then x else 0#64
theorem strict_eq (t : Int) (x : BitVec 64) : Ending.returned (.tuple #[.int .u64 (sv t (U x)), .int .i64 t]) = .returned (.tuple #[.int .u64 (U (svW t x)), .int .i64 t]) := by
  unfold sv svW; split <;> rfl
theorem do_170 (a b : BitVec 64) (w : World) :
    Calls Try.prog 7 #[.int .i64 170, .int .u64 (U a), .int .u64 (U b)] w (DoPost (svW (ttF 0 a.toNat) (tvF 0 a.toNat)) (ttF 0 a.toNat) w) := by
  have r1 := frombits_run a
  have r2 := frombits_run b
  go_enter Try.func7, Try.ntmps7
  go_wp2_with (go_at_call 18; refine (whole_170 _ _).mono ?_; rintro e w' ⟨rfl, rfl⟩)
  go_ret2
  exact ⟨strict_eq _ _, 0, rfl⟩
theorem do_171 (a b : BitVec 64) (w : World) :
    Calls Try.prog 7 #[.int .i64 171, .int .u64 (U a), .int .u64 (U b)] w (DoPost (svW (ttF 1 a.toNat) (tvF 1 a.toNat)) (ttF 1 a.toNat) w) := by
  have r1 := frombits_run a
  have r2 := frombits_run b
  go_enter Try.func7, Try.ntmps7
  go_wp2_with (go_at_call 18; refine (whole_171 _ _).mono ?_; rintro e w' ⟨rfl, rfl⟩)
  go_ret2
  exact ⟨strict_eq _ _, 0, rfl⟩
theorem do_176 (a b : BitVec 64) (w : World) :
    Calls Try.prog 7 #[.int .i64 176, .int .u64 (U a), .int .u64 (U b)] w (DoPost (svW (ttF 2 a.toNat) (tvF 2 a.toNat)) (ttF 2 a.toNat) w) := by
  have r1 := frombits_run a
  have r2 := frombits_run b
  go_enter Try.func7, Try.ntmps7
  go_wp2_with (go_at_call 18; refine (whole_176 _ _).mono ?_; rintro e w' ⟨rfl, rfl⟩)
  go_ret2
  exact ⟨strict_eq _ _, 0, rfl⟩
theorem do_177 (a b : BitVec 64) (w : World) :
    Calls Try.prog 7 #[.int .i64 177, .int .u64 (U a), .int .u64 (U b)] w (DoPost (svW (ttF 3 a.toNat) (tvF 3 a.toNat)) (ttF 3 a.toNat) w) := by
  have r1 := frombits_run a
  have r2 := frombits_run b
  go_enter Try.func7, Try.ntmps7
  go_wp2_with (go_at_call 18; refine (whole_177 _ _).mono ?_; rintro e w' ⟨rfl, rfl⟩)
  go_ret2
  exact ⟨strict_eq _ _, 0, rfl⟩
theorem do_64514 (a b : BitVec 64) (w : World) :
    Calls Try.prog 7 #[.int .i64 64514, .int .u64 (U a), .int .u64 (U b)] w (DoPost (tvF 0 a.toNat) 0 w) := by
  have r1 := frombits_run a
  have r2 := frombits_run b
  go_enter Try.func7, Try.ntmps7
  go_wp2_with (go_at_call 18; refine (whole_64514 _ _).mono ?_; rintro e w' ⟨rfl, rfl⟩)
  go_ret2
  exact ⟨rfl, 0, rfl⟩
theorem do_64515 (a b : BitVec 64) (w : World) :
    Calls Try.prog 7 #[.int .i64 64515, .int .u64 (U a), .int .u64 (U b)] w (DoPost (tvF 1 a.toNat) 0 w) := by
  have r1 := frombits_run a
  have r2 := frombits_run b
  go_enter Try.func7, Try.ntmps7
  go_wp2_with (go_at_call 18; refine (whole_64515 _ _).mono ?_; rintro e w' ⟨rfl, rfl⟩)
  go_ret2
  exact ⟨rfl, 0, rfl⟩
theorem do_64518 (a b : BitVec 64) (w : World) :
    Calls Try.prog 7 #[.int .i64 64518, .int .u64 (U a), .int .u64 (U b)] w (DoPost (tvF 2 a.toNat) 0 w) := by
  have r1 := frombits_run a
  have r2 := frombits_run b
  go_enter Try.func7, Try.ntmps7
  go_wp2_with (go_at_call 18; refine (whole_64518 _ _).mono ?_; rintro e w' ⟨rfl, rfl⟩)
  go_ret2
  exact ⟨rfl, 0, rfl⟩
theorem do_64519 (a b : BitVec 64) (w : World) :
    Calls Try.prog 7 #[.int .i64 64519, .int .u64 (U a), .int .u64 (U b)] w (DoPost (tvF 3 a.toNat) 0 w) := by
  have r1 := frombits_run a
  have r2 := frombits_run b
  go_enter Try.func7, Try.ntmps7
  go_wp2_with (go_at_call 18; refine (whole_64519 _ _).mono ?_; rintro e w' ⟨rfl, rfl⟩)
  go_ret2
  exact ⟨rfl, 0, rfl⟩
end Go.Proofs.Ytejpbhgbafapoaa
