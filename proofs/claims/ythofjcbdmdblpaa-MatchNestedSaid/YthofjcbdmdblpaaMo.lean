/-
  Contracts of match's functions but Of and Find: divides, pair; blocks that lie in a row.
-/
import Derived.Test.YthofjcbdmdblpaaKrow
import Derived.Test.YthofjcbdmdblpaaMSpec
import Derived.Test.YthofjcbdmdblpaaOi
import Derived.OneCell
namespace Go.Proofs.Ythofjcbdmdblpaa
open Go.RowKit

/-! ### Blocks in a row -/
def spCells (s : Sp) : List Value := [.int .i64 s.1, .int .i64 s.2.1, .int .i64 s.2.2]
def flatS (l : List Sp) : List Value := l.flatMap spCells
theorem flatS_length (l : List Sp) : (flatS l).length = l.length * 3 := by
  induction l with
  | nil => rfl
  | cons x l ih => simp only [flatS, List.flatMap_cons, List.length_append, spCells, List.length_cons, List.length_nil] at ih ⊢; omega
theorem flatS_snoc (l : List Sp) (x : Sp) : flatS (l ++ [x]) = flatS l ++ spCells x := by simp [flatS]
theorem flatS_cons (x : Sp) (l : List Sp) : flatS (x :: l) = spCells x ++ flatS l := by simp [flatS]
theorem spAt_cons (x : Sp) (l : List Sp) (k : Nat) : spAt (x :: l) (k + 1) = spAt l k := rfl
theorem flatS_at (l : List Sp) : ∀ k, k < l.length → (flatS l)[k * 3]? = some (.int .i64 (spAt l k).1) ∧ (flatS l)[k * 3 + 1]? = some (.int .i64 (spAt l k).2.1) ∧ (flatS l)[k * 3 + 2]? = some (.int .i64 (spAt l k).2.2) := by
  induction l with
  | nil => intro k h; simp at h
  | cons x l ih =>
    intro k h
    rw [flatS_cons]
    cases k with
    | zero => exact ⟨rfl, rfl, rfl⟩
    | succ k =>
      have h3 : (spCells x).length = 3 := rfl
      rw [List.getElem?_append_right (by rw [h3]; omega), List.getElem?_append_right (by rw [h3]; omega), List.getElem?_append_right (by rw [h3]; omega), h3, show (k + 1) * 3 - 3 = k * 3 by omega, show (k + 1) * 3 + 1 - 3 = k * 3 + 1 by omega, show (k + 1) * 3 + 2 - 3 = k * 3 + 2 by omega]
      exact ih k (by simp at h; omega)
theorem flatS_set (l : List Sp) : ∀ (k : Nat) (e z : Int), k < l.length → flatS (l.set k ((spAt l k).1, e, (spAt l k).2.2)) = (flatS l).set (k * 3 + 1) (.int .i64 e) ∧ flatS (l.set k ((spAt l k).1, (spAt l k).2.1, z)) = (flatS l).set (k * 3 + 2) (.int .i64 z) := by
  induction l with
  | nil => intro k e z h; simp at h
  | cons x l ih =>
    intro k e z h
    cases k with
    | zero => simp only [List.set_cons_zero, flatS_cons]; exact ⟨rfl, rfl⟩
    | succ k =>
      have h3 : (spCells x).length = 3 := rfl
      obtain ⟨h1, h2⟩ := ih k e z (by simp at h; omega)
      simp only [List.set_cons_succ, flatS_cons, spAt_cons, h1, h2]
      rw [List.set_append_right _ _ (by rw [h3]; omega), List.set_append_right _ _ (by rw [h3]; omega), h3, show (k + 1) * 3 + 1 - 3 = k * 3 + 1 by omega, show (k + 1) * 3 + 2 - 3 = k * 3 + 2 by omega]
      exact ⟨rfl, rfl⟩

/-- Code that lies at A: so many instructions, whose numbers ops tells. -/
def CodeAt (w : World) (A : Option Addr) (m : Nat) (ops : List Int) : Prop :=
  0 < m → ∃ g o : Nat, A = some ⟨g, o, none⟩ ∧ g < w.heap.size ∧ ∀ j, j < m → ∃ (u1 u2 u3 : Int) (Al : Option Addr) (nl cl : Nat), w.cell? ⟨g, o + j * 5, none⟩ = some (.int .i64 (ops.getD j 0)) ∧ w.cell? ⟨g, o + j * 5 + 1, none⟩ = some (.int .i64 u1) ∧ w.cell? ⟨g, o + j * 5 + 2, none⟩ = some (.int .i64 u2) ∧ w.cell? ⟨g, o + j * 5 + 3, none⟩ = some (.int .u64 u3) ∧ w.cell? ⟨g, o + j * 5 + 4, none⟩ = some (.slice Al nl cl)
theorem CodeAt.below {w w' : World} {A : Option Addr} {m : Nat} {ops : List Int} (h : CodeAt w A m ops) (hb : Below w.heap.size w w') : CodeAt w' A m ops := fun hm => by
  obtain ⟨g, o, e, hg, hc⟩ := h hm
  refine ⟨g, o, e, Nat.lt_of_lt_of_le hg hb.size, fun j hj => ?_⟩
  obtain ⟨u1, u2, u3, Al, nl, cl, h0, h1, h2, h3, h4⟩ := hc j hj
  exact ⟨u1, u2, u3, Al, nl, cl, (hb.cell (p := ⟨g, o + j * 5, none⟩) hg).trans h0, (hb.cell (p := ⟨g, o + j * 5 + 1, none⟩) hg).trans h1, (hb.cell (p := ⟨g, o + j * 5 + 2, none⟩) hg).trans h2, (hb.cell (p := ⟨g, o + j * 5 + 3, none⟩) hg).trans h3, (hb.cell (p := ⟨g, o + j * 5 + 4, none⟩) hg).trans h4⟩
theorem CodeAt.less {w : World} {A : Option Addr} {m k : Nat} {ops : List Int} (h : CodeAt w A m ops) (hk : k ≤ m) : CodeAt w A k ops := fun h0 => by
  obtain ⟨g, o, e, hg, hc⟩ := h (by omega)
  exact ⟨g, o, e, hg, fun j hj => hc j (by omega)⟩

/-! ### One step -/
section
variable {ops : List Int} {z : Int} {i : Nat} {s : MSt}
theorem mstep_open (h : opensB (ops.getD i 0) = true) : mstep ops z i s = some ⟨s.out ++ [((i : Int), -1, z)], s.op ++ [s.out.length], max s.deep (s.op.length + 1)⟩ := by
  unfold mstep; rw [if_pos (of_decide_eq_true h)]
theorem mstep_none {i : Nat} (h : (ops.getD i 0 = 5 ∨ ops.getD i 0 = 11) ∧ s.op = []) : mstep ops z i s = none := by
  unfold mstep; rw [if_neg (by omega), h.2]
  rcases h.1 with h | h
  · rw [if_pos h]; rfl
  · rw [if_neg (by omega), if_pos h]; rfl
theorem mstep_bad {k : Nat} {t : List Nat} (h5 : ops.getD i 0 = 5) (ho : s.op = t ++ [k]) (hb : decide (ops.getD (spAt s.out k).1.toNat 0 = 4 ∧ (spAt s.out k).2.1 = -1) = false) : mstep ops z i s = none := by
  unfold mstep; rw [if_neg (by omega), if_pos h5, ho, List.getLast?_concat]; simp only; rw [if_neg (of_decide_eq_false hb)]
theorem mstep_else {k : Nat} {t : List Nat} (h5 : ops.getD i 0 = 5) (ho : s.op = t ++ [k]) (hb : decide (ops.getD (spAt s.out k).1.toNat 0 = 4 ∧ (spAt s.out k).2.1 = -1) = true) : mstep ops z i s = some ⟨s.out.set k ((spAt s.out k).1, (i : Int), (spAt s.out k).2.2), s.op, s.deep⟩ := by
  unfold mstep; rw [if_neg (by omega), if_pos h5]
  have e : s.op.getLast? = some k := by rw [ho, List.getLast?_concat]
  rw [e]; simp only; rw [if_pos (of_decide_eq_true hb)]
theorem mstep_end {k : Nat} {t : List Nat} (h11 : ops.getD i 0 = 11) (ho : s.op = t ++ [k]) : mstep ops z i s = some ⟨s.out.set k ((spAt s.out k).1, (spAt s.out k).2.1, (i : Int)), t, s.deep⟩ := by
  unfold mstep; rw [if_neg (by omega), if_neg (by omega), if_pos h11, ho, List.getLast?_concat]; simp
theorem mstep_other (h1 : opensB (ops.getD i 0) = false) (h2 : ops.getD i 0 ≠ 5) (h3 : ops.getD i 0 ≠ 11) : mstep ops z i s = some s := by
  unfold mstep; rw [if_neg (of_decide_eq_false h1), if_neg h2, if_neg h3]
end
theorem mrun_succ {ops : List Int} {z : Int} {i : Nat} {s : MSt} (h : mrun ops z i = some s) : mrun ops z (i + 1) = mstep ops z i s := by
  show (mrun ops z i).bind _ = _; rw [h]; rfl
theorem list_end {l : List Nat} (h : 0 < l.length) : ∃ t k, l = t ++ [k] ∧ l.length = t.length + 1 := by
  rcases List.eq_nil_or_concat l with rfl | ⟨t, x, rfl⟩
  · simp at h
  · exact ⟨t, x, by simp, by simp⟩

/-! ### divides -/
set_option maxRecDepth 10000 in
theorem divides_any (w : World) (A : Option Addr) (m c : Nat) (ops : List Int) (hc : CodeAt w A m ops) (a : Nat) (ha : a < m) (hm : m ≤ 1000000) (e z : Int) :
    Calls Try.prog 33 #[.slice A m c, .agg #[.int .i64 (a : Int), .int .i64 e, .int .i64 z]] w (BoolPost (decide (ops.getD a 0 = 4 ∧ e = -1)) w) := by
  obtain ⟨g, o, rfl, hg, hcell⟩ := hc (by omega)
  obtain ⟨_, _, _, _, _, _, h0, _⟩ := hcell a ha
  have k0 : (w.alloc (.cells #[.int .i64 (a : Int), .int .i64 e, .int .i64 z] 51)).cell? ⟨g, o + a * 5, none⟩ = some (.int .i64 (ops.getD a 0)) := by rw [World.cell?_alloc_lt _ _ _ (by exact hg)]; exact h0
  clear hcell h0 hc
  generalize ops.getD a 0 = op at k0 ⊢
  by_cases h4 : op = 4
  · have d4 : (op == 4) = true := by simpa using h4
    by_cases he : e = -1
    · have de : (e == -1) = true := by simpa using he
      rw [show decide (op = 4 ∧ e = -1) = true from decide_eq_true ⟨h4, he⟩]
      clear h4 he
      go_enter Try.func33, Try.ntmps33
      go_wp2
      go_ret
      exact ⟨rfl, (Below.refl _ _).alloc (Nat.le_refl _) _⟩
    · have de : (e == -1) = false := by simpa using he
      rw [show decide (op = 4 ∧ e = -1) = false from decide_eq_false (fun h => he h.2)]
      clear h4 he
      go_enter Try.func33, Try.ntmps33
      go_wp2
      go_ret
      exact ⟨rfl, (Below.refl _ _).alloc (Nat.le_refl _) _⟩
  · have d4 : (op == 4) = false := by simpa using h4
    rw [show decide (op = 4 ∧ e = -1) = false from decide_eq_false (fun h => h4 h.1)]
    clear h4
    go_enter Try.func33, Try.ntmps33
    go_wp2
    go_ret
    exact ⟨rfl, (Below.refl _ _).alloc (Nat.le_refl _) _⟩
end Go.Proofs.Ythofjcbdmdblpaa
