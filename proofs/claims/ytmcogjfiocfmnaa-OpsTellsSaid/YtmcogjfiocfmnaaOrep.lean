/-
  Contract of slices.Repeat, of a row of one number, once or twice.
-/
import Derived.Test.YtmcogjfiocfmnaaOrow
import Derived.Laws.IdiomCopy
namespace Go.Proofs.Ytmcogjfiocfmnaa
open Go.RowKit

theorem mul64_few (n : Int) (h : n = 1 ∨ n = 2) (w : World) :
    Calls Try.prog 35 #[.int .u64 1, .int .u64 n] w fun e w' => e = .returned (.tuple #[.int .u64 0, .int .u64 n]) ∧ w = w' := by
  rcases h with rfl | rfl
  all_goals
    go_enter Try.func35, Try.ntmps35
    go_wp2
    go_ret2
    exact ⟨rfl, rfl⟩
theorem mul_1 (w : World) : Calls Try.prog 32 #[.int .u64 1, .int .u64 1] w fun e w' => e = .returned (.tuple #[.int .u64 0, .int .u64 1]) ∧ w = w' := by
  go_enter Try.func32, Try.ntmps32
  go_wp2_with (go_at_call 35; refine (mul64_few 1 (.inl rfl) _).mono ?_; rintro e w' ⟨rfl, rfl⟩)
  go_ret2
  exact ⟨rfl, rfl⟩
theorem mul_2 (w : World) : Calls Try.prog 32 #[.int .u64 1, .int .u64 2] w fun e w' => e = .returned (.tuple #[.int .u64 0, .int .u64 2]) ∧ w = w' := by
  go_enter Try.func32, Try.ntmps32
  go_wp2_with (go_at_call 35; refine (mul64_few 2 (.inr rfl) _).mono ?_; rintro e w' ⟨rfl, rfl⟩)
  go_ret2
  exact ⟨rfl, rfl⟩

theorem made_1 (w : World) : (Instr.makeSlice 22 (.int .i64 1) (.int .i64 1)).run Try.prog w = .ok (.slice (some ⟨w.heap.size, 0, none⟩) 1 1) (w.alloc (.cells #[.int .i64 0] 3)) := by kernel_rfl
theorem made_2 (w : World) : (Instr.makeSlice 22 (.int .i64 2) (.int .i64 2)).run Try.prog w = .ok (.slice (some ⟨w.heap.size, 0, none⟩) 2 2) (w.alloc (.cells #[.int .i64 0, .int .i64 0] 3)) := by kernel_rfl

/-- A row of n times x in new memory. -/
def TimesPost (x : Int) (n : Nat) (w : World) (e : Ending) (w' : World) : Prop := ∃ v : Value, e = .returned v ∧ RowOf w' v (List.replicate n x) ∧ (∀ a k c, v = .slice (some a) k c → w.heap.size ≤ a.block) ∧ Below w.heap.size w w'

theorem copied (b o dl dc : Nat) (a : Addr) (sc : Nat) (x : Int) (w : World) (hd : 1 ≤ dl) (hx : w.cell? a = some (.int .i64 x)) (hc : (w.cell? ⟨b, o, none⟩).isSome = true) (hf : w.frozen? ⟨b, o, none⟩ = false) :
    (Builtin.copy_ #[22, 22] 3 #[.slice (some ⟨b, o, none⟩) dl dc, .slice (some a) 1 sc]).run Try.prog w = .ok (.int .i64 1) (w.setCell ⟨b, o, none⟩ (.int .i64 x)) := by
  have h := run_copy_cells (P := Try.prog) w 22 22 3 3 b o dl dc a 1 sc [.int .i64 x] (by kernel_rfl) (by kernel_rfl) (by simp [Nat.min_eq_left hd])
    (by intro j v hj; match j, hj with | 0, hj => simp at hj; subst hj; simpa [Addr.add] using hx) (fun j hj => by have e : j = 0 := (by simpa using hj); subst e; exact hc) (fun j hj => by have e : j = 0 := (by simpa using hj); subst e; exact hf) (by simp [Value.oneCell'])
  exact h
theorem repeat_1 (x : Int) (g : Nat) (w : World) (hg : w.cell? ⟨g, 0, none⟩ = some (.int .i64 x)) (hs : g < w.heap.size) :
    Calls Try.prog 26 #[.slice (some ⟨g, 0, none⟩) 1 1, .int .i64 1] w (TimesPost x 1 w) := by
  have hmk := made_1
  have hg' : (w.alloc (.cells #[.int .i64 0] 3)).cell? ⟨g, 0, none⟩ = some (.int .i64 x) := by rw [World.cell?_alloc_lt _ _ _ hs]; exact hg
  have hcp := copied w.heap.size 0 1 1 ⟨g, 0, none⟩ 1 x (w.alloc (.cells #[.int .i64 0] 3)) (Nat.le_refl _) hg' (by simp) (by simp [go_sem])
  go_enter Try.func26, Try.ntmps26
  go_wp2_with (go_at_call 32; refine (mul_1 _).mono ?_; rintro e w' ⟨rfl, rfl⟩)
  go_loop [8] (fun n => n = .int .i64 1) (fun _ => 0)
  case atStart => rfl
  case round =>
    subst hrel
    go_wp2
    go_ret
    exact ⟨_, rfl, .inr ⟨w.heap.size, 1, rfl, by simp, by simp, by simp, fun j hj => new_cells w 3 [x] j hj⟩, fun a k c e => by cases e; exact Nat.le_refl _, (Below.refl _ _).alloc (Nat.le_refl _) _⟩
theorem repeat_2 (x : Int) (g : Nat) (w : World) (hg : w.cell? ⟨g, 0, none⟩ = some (.int .i64 x)) (hs : g < w.heap.size) :
    Calls Try.prog 26 #[.slice (some ⟨g, 0, none⟩) 1 1, .int .i64 2] w (TimesPost x 2 w) := by
  have hmk := made_2
  have hg' : (w.alloc (.cells #[.int .i64 0, .int .i64 0] 3)).cell? ⟨g, 0, none⟩ = some (.int .i64 x) := by rw [World.cell?_alloc_lt _ _ _ hs]; exact hg
  have hcp := copied w.heap.size 0 2 2 ⟨g, 0, none⟩ 1 x (w.alloc (.cells #[.int .i64 0, .int .i64 0] 3)) (by omega) hg' (by simp) (by simp [go_sem])
  have hcq : (Builtin.copy_ #[22, 22] 3 #[.slice (some ⟨w.heap.size, 1, none⟩) 1 1, .slice (some ⟨w.heap.size, 0, none⟩) 1 2]).run Try.prog (w.alloc (.cells #[.int .i64 x, .int .i64 0] 3)).drew = .ok (.int .i64 1) (w.alloc (.cells #[.int .i64 x, .int .i64 x] 3)).drew := by
    have h := copied w.heap.size 1 1 1 ⟨w.heap.size, 0, none⟩ 2 x (w.alloc (.cells #[.int .i64 x, .int .i64 0] 3)).drew (by omega) (by simp [go_sem]) (by simp [go_sem]) (by simp [go_sem])
    rw [show ∀ (X : World) a v, X.drew.setCell a v = (X.setCell a v).drew from fun _ _ _ => rfl] at h
    simpa [go_sem] using h
  go_enter Try.func26, Try.ntmps26
  go_wp2_with (go_at_call 32; refine (mul_2 _).mono ?_; rintro e w' ⟨rfl, rfl⟩)
  go_loopw [8] (fun n wr => (n = .int .i64 1 ∧ wr = w.alloc (.cells #[.int .i64 x, .int .i64 0] 3)) ∨ (n = .int .i64 2 ∧ ∃ m, wr = (w.alloc (.cells #[.int .i64 x, .int .i64 x] 3)).drewN m)) (fun n _ => 2 - (intOf n).toNat)
  case atStart => exact .inl ⟨rfl, rfl⟩
  case round =>
    rcases hrel with ⟨rfl, rfl⟩ | ⟨rfl, m, rfl⟩
    · go_wp2_with fail
      go_region
      all_goals
        go_wp2
        go_roundw
        case rel => exact .inr ⟨rfl, 1, rfl⟩
        case measure => simp [intOf]
    · go_wp2
      go_ret
      refine ⟨_, rfl, .inr ⟨w.heap.size, 2, rfl, by simp, by simp, by simp, fun j hj => new_cells w 3 [x, x] j hj⟩, fun a k c e => by cases e; exact Nat.le_refl _, below_drewN ((Below.refl _ _).alloc (Nat.le_refl _) _) _⟩
end Go.Proofs.Ytmcogjfiocfmnaa
