/-
  Contracts of both Rich and of both Access: what each gives back, for any number.
-/
import Derived.Test.YtmcogjfiocfmnaaOrow
namespace Go.Proofs.Ytmcogjfiocfmnaa
open Go.RowKit

/-! ### Rich -/
theorem rich_any (op : Int) (w : World) : Calls Try.prog 18 #[.int .i64 op] w (BoolPost (richB op) w) := by
  have C := fun (w1 : World) hg => contains_any w.heap.size 14 14 richL op rfl (by omega) w1 hg
  unfold richB
  generalize richL.contains op = b at C
  have HC := Lib.hid C
  clear C
  go_enter Try.func18, Try.ntmps18
  go_wp2_with fail
  go_at_call 27
  refine (HC.out _ ?_).mono ?_
  · intro j hj
    exact new_cells w 3 richL j hj
  rintro e w' ⟨rfl, rfl⟩
  go_wp2
  go_ret
  exact ⟨rfl, (Below.refl _ _).alloc (Nat.le_refl _) _⟩

theorem rrich_any (op : Int) (w : World) :
    Calls Try.prog 22 #[.int .i64 op] w fun e w' => e = .returned (.bool (richB op)) ∧ w = w' := by
  rw [← rrich_eq]
  by_cases c : op = 18 ∨ 192 ≤ op ∧ op ≤ 196 ∨ op = 64514 ∨ op = 64515 ∨ 64518 ≤ op ∧ op ≤ 64523
  · rw [show rrichB op = true from decide_eq_true c]
    rcases c with rfl | ⟨h, g⟩ | rfl | rfl | ⟨h, g⟩
    case inr.inr.inr.inr =>
      have d1 : (op == 18) = false := by simp; omega
      have d2 : decide (op ≤ 196) = false := by simp; omega
      go_enter Try.func22, Try.ntmps22
      go_wp2
      go_ret
      exact ⟨rfl, rfl⟩
    all_goals
      go_enter Try.func22, Try.ntmps22
      go_wp2
      go_ret
      exact ⟨rfl, rfl⟩
  · rw [show rrichB op = false from decide_eq_false c]
    have c' : op < 192 ∨ 196 < op ∧ op < 64518 ∨ 64523 < op := by omega
    have e1 : (op == 18) = false := by simp; omega
    have e2 : (op == 64514) = false := by simp; omega
    have e3 : (op == 64515) = false := by simp; omega
    clear c
    rcases c' with h | ⟨h, g⟩ | h
    · go_enter Try.func22, Try.ntmps22
      go_wp2
      go_ret
      exact ⟨rfl, rfl⟩
    · have d2 : decide (op ≤ 196) = false := by simp; omega
      go_enter Try.func22, Try.ntmps22
      go_wp2
      go_ret
      exact ⟨rfl, rfl⟩
    · have d2 : decide (op ≤ 196) = false := by simp; omega
      have d3 : decide (op ≤ 64523) = false := by simp; omega
      go_enter Try.func22, Try.ntmps22
      go_wp2
      go_ret
      exact ⟨rfl, rfl⟩

/-! ### Access -/
theorem acc_ways (op : Int) (h : 40 ≤ op) (g : op ≤ 62) : ∃ i : Fin 23, op = 40 + (i.val : Int) := ⟨⟨(op - 40).toNat, by omega⟩, by simp; omega⟩
/-- What Access gives. -/
def AccPost (p : Int × Int × Bool × Bool) (w : World) (e : Ending) (w' : World) : Prop :=
  e = .returned (.tuple #[.int .i64 p.1, .int .i64 p.2.1, .bool p.2.2.1, .bool p.2.2.2]) ∧ Below w.heap.size w w'
theorem access_out (op : Int) (h : op < 40 ∨ 62 < op) (w : World) : Calls Try.prog 14 #[.int .i64 op] w (AccPost (0, 0, false, false) w) := by
  rcases h with h | h
  all_goals
    go_enter Try.func14, Try.ntmps14
    go_wp2
    refine bodyPost_ret (v := .tuple #[.int .i64 0, .int .i64 0, .bool false, .bool false]) (by simp [results, Try.results14, go_sem]) rfl ⟨rfl, Below.refl _ _⟩
/-- The table's cells. -/
def tableB : Array Value := ((List.replicate 40 (0, 0, false, false) ++ accL).flatMap fun (p : Int × Int × Bool × Bool) => [Value.int .i64 p.1, Value.int .i64 p.2.1, Value.bool p.2.2.1]).toArray
theorem table_built (w : World) : (Instr.build 46 #[(40, .agg #[.int .i64 4, .int .i64 127, .bool false]), (41, .agg #[.int .i64 8, .int .i64 126, .bool false]), (43, .agg #[.int .i64 8, .int .i64 124, .bool false]), (44, .agg #[.int .i64 1, .int .i64 127, .bool true]), (45, .agg #[.int .i64 1, .int .i64 127, .bool false]), (46, .agg #[.int .i64 2, .int .i64 127, .bool true]), (47, .agg #[.int .i64 2, .int .i64 127, .bool false]), (48, .agg #[.int .i64 1, .int .i64 126, .bool true]), (49, .agg #[.int .i64 1, .int .i64 126, .bool false]), (50, .agg #[.int .i64 2, .int .i64 126, .bool true]), (51, .agg #[.int .i64 2, .int .i64 126, .bool false]), (52, .agg #[.int .i64 4, .int .i64 126, .bool true]), (53, .agg #[.int .i64 4, .int .i64 126, .bool false]), (54, .agg #[.int .i64 4, .int .i64 127, .bool false]), (55, .agg #[.int .i64 8, .int .i64 126, .bool false]), (57, .agg #[.int .i64 8, .int .i64 124, .bool false]), (58, .agg #[.int .i64 1, .int .i64 127, .bool false]), (59, .agg #[.int .i64 2, .int .i64 127, .bool false]), (60, .agg #[.int .i64 1, .int .i64 126, .bool false]), (61, .agg #[.int .i64 2, .int .i64 126, .bool false]), (62, .agg #[.int .i64 4, .int .i64 126, .bool false])]).run Try.prog w = .ok (.agg tableB) w := run_build w _ _ _ (by kernel_rfl)
theorem table_at (w : World) : ∀ i : Fin 23, (Instr.index 46 (.agg tableB) (.int .i64 (40 + (i.val : Int)))).run Try.prog w = .ok (.agg #[.int .i64 (accL.getD i.val (0, 0, false, false)).1, .int .i64 (accL.getD i.val (0, 0, false, false)).2.1, .bool (accL.getD i.val (0, 0, false, false)).2.2.1]) w
  | ⟨0, _⟩ => by kernel_rfl
  | ⟨1, _⟩ => by kernel_rfl
  | ⟨2, _⟩ => by kernel_rfl
  | ⟨3, _⟩ => by kernel_rfl
  | ⟨4, _⟩ => by kernel_rfl
  | ⟨5, _⟩ => by kernel_rfl
  | ⟨6, _⟩ => by kernel_rfl
  | ⟨7, _⟩ => by kernel_rfl
  | ⟨8, _⟩ => by kernel_rfl
  | ⟨9, _⟩ => by kernel_rfl
  | ⟨10, _⟩ => by kernel_rfl
  | ⟨11, _⟩ => by kernel_rfl
  | ⟨12, _⟩ => by kernel_rfl
  | ⟨13, _⟩ => by kernel_rfl
  | ⟨14, _⟩ => by kernel_rfl
  | ⟨15, _⟩ => by kernel_rfl
  | ⟨16, _⟩ => by kernel_rfl
  | ⟨17, _⟩ => by kernel_rfl
  | ⟨18, _⟩ => by kernel_rfl
  | ⟨19, _⟩ => by kernel_rfl
  | ⟨20, _⟩ => by kernel_rfl
  | ⟨21, _⟩ => by kernel_rfl
  | ⟨22, _⟩ => by kernel_rfl
  | ⟨_ + 23, h⟩ => absurd h (by omega)
theorem triple_built (a b : Int) (c : Bool) (w : World) : (Instr.build 45 #[(0, .int .i64 a), (1, .int .i64 b), (2, .bool c)]).run Try.prog w = .ok (.agg #[.int .i64 a, .int .i64 b, .bool c]) w := run_build w _ _ _ (by kernel_rfl)
end Go.Proofs.Ytmcogjfiocfmnaa
