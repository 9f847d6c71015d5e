/-
  Code that the statements make: rows of instructions of which the number alone is told. 'known'.
-/
import Derived.Test.YthofjcbdmdblpaaMf
namespace Go.Proofs.Ythofjcbdmdblpaa
open Go.RowKit

def inCells (x : Int) : List Value := [.int .i64 x, .int .i64 0, .int .i64 0, .int .u64 0, .slice none 0 0]
def flatI (l : List Int) : List Value := l.flatMap inCells
theorem flatI_length (l : List Int) : (flatI l).length = l.length * 5 := by
  induction l with
  | nil => rfl
  | cons x l ih => simp only [flatI, List.flatMap_cons, List.length_append, inCells, List.length_cons, List.length_nil] at ih ⊢; omega
theorem flatI_append (a b : List Int) : flatI (a ++ b) = flatI a ++ flatI b := by simp [flatI]
theorem flatI_at (l : List Int) : ∀ k, k < l.length → (flatI l)[k * 5]? = some (.int .i64 (l.getD k 0)) ∧ (flatI l)[k * 5 + 1]? = some (.int .i64 0) ∧ (flatI l)[k * 5 + 2]? = some (.int .i64 0) ∧ (flatI l)[k * 5 + 3]? = some (.int .u64 0) ∧ (flatI l)[k * 5 + 4]? = some (.slice none 0 0) := by
  induction l with
  | nil => intro k h; simp at h
  | cons x l ih =>
    intro k h
    rw [show flatI (x :: l) = inCells x ++ flatI l from rfl]
    cases k with
    | zero => exact ⟨rfl, rfl, rfl, rfl, rfl⟩
    | succ k =>
      have h3 : (inCells x).length = 5 := rfl
      rw [List.getElem?_append_right (by rw [h3]; omega), List.getElem?_append_right (by rw [h3]; omega), List.getElem?_append_right (by rw [h3]; omega), List.getElem?_append_right (by rw [h3]; omega), List.getElem?_append_right (by rw [h3]; omega), h3, show (k + 1) * 5 - 5 = k * 5 by omega, show (k + 1) * 5 + 1 - 5 = k * 5 + 1 by omega, show (k + 1) * 5 + 2 - 5 = k * 5 + 2 by omega, show (k + 1) * 5 + 3 - 5 = k * 5 + 3 by omega, show (k + 1) * 5 + 4 - 5 = k * 5 + 4 by omega]
      exact ih k (by simp at h; omega)
/-- Code that the call owns. -/
theorem codeAt_owned {T : TypeId} {w : World} {base : Nat} {A : Option Addr} {n c : Nat} {ops : List Int} (h : w.ownsRow base T 5 (.slice A n c) n (flatI ops)) (hn : ops.length = n) : CodeAt w A n ops ∧ n ≤ c := by
  rcases h.2 with ⟨h1, h0⟩ | ⟨g, cap, cur, h1, _, _, h2, _⟩
  · simp only [Value.slice.injEq] at h1
    exact ⟨fun h3 => by omega, by omega⟩
  · simp only [Value.slice.injEq] at h1
    obtain ⟨rfl, -, rfl⟩ := h1
    refine ⟨fun _ => ⟨g, 0, rfl, (h.lt g rfl).2, fun j hj => ?_⟩, h2⟩
    obtain ⟨f0, f1, f2, f3, f4⟩ := flatI_at ops j (by omega)
    rw [Nat.zero_add]
    exact ⟨0, 0, 0, none, 0, 0, by rw [h.cellAt _ (by omega), f0], by rw [h.cellAt _ (by omega), f1], by rw [h.cellAt _ (by omega), f2], by rw [h.cellAt _ (by omega), f3], by rw [h.cellAt _ (by omega), f4]⟩
/-- A literal row of code. -/
theorem codeAt_lit (w : World) (cs : Array Value) (T : TypeId) (ops : List Int) (n : Nat) (hn : ops.length = n) (h : cs = (flatI ops).toArray) : CodeAt (w.alloc (.cells cs T)) (some ⟨w.heap.size, 0, none⟩) n ops := fun _ => by
  subst h
  refine ⟨w.heap.size, 0, rfl, by simp, fun j hj => ?_⟩
  obtain ⟨f0, f1, f2, f3, f4⟩ := flatI_at ops j (by omega)
  rw [Nat.zero_add]
  refine ⟨0, 0, 0, none, 0, 0, ?_, ?_, ?_, ?_, ?_⟩ <;> rw [World.cell?_alloc_new, List.getElem?_toArray] <;> assumption
theorem Try.infoInst5 : (Try.prog.info? 26).map (fun i => (i.zero, i.size, i.bytes)) = some (some (.agg #[.int .i64 0, .int .i64 0, .int .i64 0, .int .u64 0, .slice none 0 0]), 5, 56) := by kernel_rfl

set_option maxRecDepth 100000 in
set_option maxHeartbeats 2000000 in
theorem known_any (w : World) : Calls Try.prog 8 #[] w (BoolPost true w) := by
  have HL1 := Lib.hid (codeAt_lit w #[.int .i64 2, .int .i64 0, .int .i64 0, .int .u64 0, .slice none 0 0, .int .i64 11, .int .i64 0, .int .i64 0, .int .u64 0, .slice none 0 0, .int .i64 11, .int .i64 0, .int .i64 0, .int .u64 0, .slice none 0 0] 26 [2, 11, 11] 3 rfl rfl)
  have HP1 : Hid (matchP [2, 11, 11] = ([(0, -1, 1)], 0)) := Lib.hid (by decide)
  have HP2 : Hid (matchP [] = ([], 12)) := Lib.hid (by decide)
  have HP3 : Hid (matchP [5, 11] = ([], 12)) := Lib.hid (by decide)
  have HB1 := Lib.hid ((Below.refl w.heap.size w).alloc (Nat.le_refl _) (.cells #[.int .i64 2, .int .i64 0, .int .i64 0, .int .u64 0, .slice none 0 0, .int .i64 11, .int .i64 0, .int .i64 0, .int .u64 0, .slice none 0 0, .int .i64 11, .int .i64 0, .int .i64 0, .int .u64 0, .slice none 0 0] 26))
  go_enter Try.func8, Try.ntmps8
  go_wp2_with fail
  go_at_call 12
  refine (of_any _ _ 3 3 _ HL1.out rfl (by omega) (by omega)).mono ?_
  rintro e w1 ⟨v1, rfl, hs1, hb1⟩
  rw [HP1.out] at hs1 ⊢
  have HS1 := Lib.hid hs1
  have HBB := Lib.hid (below_then HB1.out hb1)
  obtain ⟨A1, c1, rfl, _, _⟩ := id hs1
  simp only [List.length_singleton] at HS1 ⊢
  clear HL1 HB1 hb1 hs1
  go_wp2_with fail
  go_at_call 12
  refine (of_any _ none 0 0 [] (fun h => by omega) rfl (by omega) (by omega)).mono ?_
  rintro e w2 ⟨v2, rfl, hs2, hb2⟩
  rw [HP2.out] at hs2 ⊢
  obtain ⟨A2, c2, rfl, _, _⟩ := hs2
  have HS2 := Lib.hid (HS1.out.below hb2)
  have HB2 := Lib.hid (below_then HBB.out hb2)
  have HL3 := Lib.hid (codeAt_lit w2 #[.int .i64 5, .int .i64 0, .int .i64 0, .int .u64 0, .slice none 0 0, .int .i64 11, .int .i64 0, .int .i64 0, .int .u64 0, .slice none 0 0] 26 [5, 11] 2 rfl rfl)
  have HB3 := Lib.hid (HB2.out.alloc HB2.out.size (.cells #[.int .i64 5, .int .i64 0, .int .i64 0, .int .u64 0, .slice none 0 0, .int .i64 11, .int .i64 0, .int .i64 0, .int .u64 0, .slice none 0 0] 26))
  have HS3 := Lib.hid (HS2.out.below ((Below.refl _ _).alloc (Nat.le_refl _) (.cells #[.int .i64 5, .int .i64 0, .int .i64 0, .int .u64 0, .slice none 0 0, .int .i64 11, .int .i64 0, .int .i64 0, .int .u64 0, .slice none 0 0] 26)))
  clear HS1 HBB hb2 HS2 HB2
  go_wp2_with fail
  go_at_call 12
  refine (of_any _ _ 2 2 _ HL3.out rfl (by omega) (by omega)).mono ?_
  rintro e w4 ⟨v3, rfl, hs4, hb4⟩
  rw [HP3.out] at hs4 ⊢
  obtain ⟨A4, c4, rfl, _, _⟩ := hs4
  have HS4 := Lib.hid (HS3.out.below hb4)
  have HB4 := Lib.hid (below_then HB3.out hb4)
  clear HL3 HB3 HS3 hb4
  have HF1 := Lib.hid (find_any w4 _ _ 0 HS4.out)
  unfold FindPost at HF1
  rw [show findP [((0 : Int), (-1 : Int), (1 : Int))] 0 = ((0, -1, 1), true) by decide] at HF1
  go_wp2_with fail
  go_at_call 14
  refine HF1.out.mono ?_
  rintro e w5 ⟨rfl, hb5⟩
  have hb6 := below_new hb5 (.cells #[.int .i64 0, .int .i64 (-1), .int .i64 1] 51)
  have HF2 := Lib.hid (find_any _ _ _ 1 (HS4.out.below hb6))
  unfold FindPost at HF2
  rw [show findP [((0 : Int), (-1 : Int), (1 : Int))] 1 = ((0, 0, 0), false) by decide] at HF2
  have HB6 := Lib.hid (below_then HB4.out hb6)
  have HCN := Lib.hid (fun (j : Nat) => World.cell?_alloc_new w5 #[.int .i64 0, .int .i64 (-1), .int .i64 1] 51 j)
  clear HF1 hb5 hb6 HS4 HB4
  go_wp2_with fail
  go_at_call 14
  refine HF2.out.mono ?_
  rintro e w7 ⟨rfl, hb7⟩
  have hlt3 : w5.heap.size < (w5.alloc (.cells #[.int .i64 0, .int .i64 (-1), .int .i64 1] 51)).heap.size := by simp
  have hbb := (hb7.alloc hb7.size (.cells #[.int .i64 0, .int .i64 0, .int .i64 0] 51))
  have k1 := (hbb.cell (p := ⟨w5.heap.size, 1, none⟩) hlt3).trans (HCN.out 1)
  have k2 := (hbb.cell (p := ⟨w5.heap.size, 2, none⟩) hlt3).trans (HCN.out 2)
  simp only [List.getElem?_toArray, List.getElem?_cons_zero, List.getElem?_cons_succ] at k1 k2
  have HB7 := Lib.hid (below_new (below_then HB6.out hb7) (.cells #[.int .i64 0, .int .i64 0, .int .i64 0] 51))
  clear HF2 hb7 HCN hlt3 hbb HB6
  go_wp2
  go_ret
  exact ⟨rfl, HB7.out⟩
end Go.Proofs.Ythofjcbdmdblpaa
