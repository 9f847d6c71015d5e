/-
  Code in rows, of which the numbers are told: what is appended; code within one block more.
-/
import Derived.Test.YtdfonjnplmfhfaaKmodule
import Derived.Test.YtdfonjnplmfhfaaMcode
import Derived.Test.YtdfonjnplmfhfaaKrows
import Derived.Test.YtdfonjnplmfhfaaJA
namespace Go.Proofs.Ytdfonjnplmfhfaa
open Go.RowKit

/-- Cells of instructions whose numbers ops tells. -/
def GoodO (us : List Value) (ops : List Int) : Prop :=
  us.length = ops.length * 5 ∧ ∀ j, j < ops.length → ∃ (u1 u2 u3 : Int) (Al : Option Addr) (nl cl : Nat), us[j * 5]? = some (.int .i64 (ops.getD j 0)) ∧ us[j * 5 + 1]? = some (.int .i64 u1) ∧ us[j * 5 + 2]? = some (.int .i64 u2) ∧ us[j * 5 + 3]? = some (.int .u64 u3) ∧ us[j * 5 + 4]? = some (.slice Al nl cl)
theorem GoodO.nil : GoodO [] [] := ⟨rfl, fun _ h => absurd h (Nat.not_lt_zero _)⟩
theorem GoodO.one (op u1 u2 u3 : Int) (Al : Option Addr) (nl cl : Nat) : GoodO [.int .i64 op, .int .i64 u1, .int .i64 u2, .int .u64 u3, .slice Al nl cl] [op] :=
  ⟨rfl, fun j hj => by
    obtain rfl : j = 0 := by simp at hj; omega
    exact ⟨u1, u2, u3, Al, nl, cl, rfl, rfl, rfl, rfl, rfl⟩⟩
theorem GoodO.append {us vs : List Value} {a b : List Int} (h : GoodO us a) (k : GoodO vs b) : GoodO (us ++ vs) (a ++ b) := by
  refine ⟨by rw [List.length_append, List.length_append, h.1, k.1, Nat.add_mul], fun j hj => ?_⟩
  have h1 := h.1
  rcases Nat.lt_or_ge j a.length with hlt | hge
  · obtain ⟨u1, u2, u3, Al, nl, cl, e0, e1, e2, e3, e4⟩ := h.2 j hlt
    have hop : (a ++ b).getD j 0 = a.getD j 0 := by rw [List.getD_eq_getElem?_getD, List.getD_eq_getElem?_getD, List.getElem?_append_left hlt]
    rw [hop]
    refine ⟨u1, u2, u3, Al, nl, cl, ?_, ?_, ?_, ?_, ?_⟩
    all_goals rw [List.getElem?_append_left (by omega)]; assumption
  · have hjb : j - a.length < b.length := by rw [List.length_append] at hj; omega
    obtain ⟨u1, u2, u3, Al, nl, cl, e0, e1, e2, e3, e4⟩ := k.2 (j - a.length) hjb
    have hop : (a ++ b).getD j 0 = b.getD (j - a.length) 0 := by rw [List.getD_eq_getElem?_getD, List.getD_eq_getElem?_getD, List.getElem?_append_right hge]
    rw [hop]
    refine ⟨u1, u2, u3, Al, nl, cl, ?_, ?_, ?_, ?_, ?_⟩
    · rw [List.getElem?_append_right (by omega), show j * 5 - us.length = (j - a.length) * 5 by omega]; exact e0
    · rw [List.getElem?_append_right (by omega), show j * 5 + 1 - us.length = (j - a.length) * 5 + 1 by omega]; exact e1
    · rw [List.getElem?_append_right (by omega), show j * 5 + 2 - us.length = (j - a.length) * 5 + 2 by omega]; exact e2
    · rw [List.getElem?_append_right (by omega), show j * 5 + 3 - us.length = (j - a.length) * 5 + 3 by omega]; exact e3
    · rw [List.getElem?_append_right (by omega), show j * 5 + 4 - us.length = (j - a.length) * 5 + 4 by omega]; exact e4
/-- Each cell is one cell. -/
theorem GoodO.ones {us : List Value} {a : List Int} (h : GoodO us a) : ∀ u ∈ us, u.oneCell' = true := by
  intro u hu
  obtain ⟨i, hi, rfl⟩ := List.mem_iff_getElem.1 hu
  have h1 := h.1
  obtain ⟨u1, u2, u3, Al, nl, cl, e0, e1, e2, e3, e4⟩ := h.2 (i / 5) (by omega)
  have hm : us[i]? = some us[i] := List.getElem?_eq_getElem hi
  rcases (show i = i / 5 * 5 ∨ i = i / 5 * 5 + 1 ∨ i = i / 5 * 5 + 2 ∨ i = i / 5 * 5 + 3 ∨ i = i / 5 * 5 + 4 by omega) with e | e | e | e | e
  · rw [← e, hm] at e0; simp only [Option.some.injEq] at e0; rw [e0]; rfl
  · rw [← e, hm] at e1; simp only [Option.some.injEq] at e1; rw [e1]; rfl
  · rw [← e, hm] at e2; simp only [Option.some.injEq] at e2; rw [e2]; rfl
  · rw [← e, hm] at e3; simp only [Option.some.injEq] at e3; rw [e3]; rfl
  · rw [← e, hm] at e4; simp only [Option.some.injEq] at e4; rw [e4]; rfl
/-- Such a row, owned, is code. -/
theorem GoodO.codeAt {w : World} {base : Nat} {e : TypeId} {A : Option Addr} {n c : Nat} {us : List Value} {ops : List Int} (h : GoodO us ops) (ho : w.ownsRow base e 5 (.slice A n c) n us) (hn : n = ops.length) : CodeAt w A n ops ∧ n ≤ c := by
  subst hn
  rcases ho.2 with ⟨he, h0⟩ | ⟨g, cap, cur, he, h1, h2, h3, h4, h5, h6⟩
  · simp only [Value.slice.injEq] at he
    exact ⟨fun hm => by omega, by omega⟩
  · simp only [Value.slice.injEq] at he
    obtain ⟨rfl, -, rfl⟩ := he
    refine ⟨fun hm => ⟨g, 0, rfl, (ho.lt g rfl).2, fun j hj => ?_⟩, by omega⟩
    obtain ⟨u1, u2, u3, Al, nl, cl, e0, e1, e2, e3, e4⟩ := h.2 j hj
    refine ⟨u1, u2, u3, Al, nl, cl, ?_, ?_, ?_, ?_, ?_⟩
    · rw [Nat.zero_add, ho.cellAt _ (by omega)]; exact e0
    · rw [Nat.zero_add, ho.cellAt _ (by omega)]; exact e1
    · rw [Nat.zero_add, ho.cellAt _ (by omega)]; exact e2
    · rw [Nat.zero_add, ho.cellAt _ (by omega)]; exact e3
    · rw [Nat.zero_add, ho.cellAt _ (by omega)]; exact e4
/-- Code of a module, as news. -/
theorem CodeK.goodO {K : Nat → Prop} {w : World} {v : Value} {c : List Ins} (h : CodeK K w v c) : ∃ us, News w v c.length us ∧ GoodO us (c.map Ins.op) := by
  obtain ⟨us, h1, h2, h3⟩ := CellsK.news h
  refine ⟨us, h2, by rw [List.length_map]; exact h1, fun j hj => ?_⟩
  rw [List.length_map] at hj
  have hop : (c.map Ins.op).getD j 0 = (c.getD j ins0).op := by
    rw [List.getD_eq_getElem?_getD, List.getD_eq_getElem?_getD, List.getElem?_map, List.getElem?_eq_getElem hj]; rfl
  obtain ⟨u0, k0, rfl⟩ := h3 j 0 hj (by omega)
  obtain ⟨u1, k1, rfl⟩ := h3 j 1 hj (by omega)
  obtain ⟨u2, k2, rfl⟩ := h3 j 2 hj (by omega)
  obtain ⟨u3, k3, rfl⟩ := h3 j 3 hj (by omega)
  obtain ⟨u4, k4, h4⟩ := h3 j 4 hj (by omega)
  obtain ⟨Al, cl, rfl, _⟩ := IntsK.form h4
  rw [hop]
  exact ⟨_, _, _, Al, _, cl, k0, k1, k2, k3, k4⟩
end Go.Proofs.Ytdfonjnplmfhfaa
