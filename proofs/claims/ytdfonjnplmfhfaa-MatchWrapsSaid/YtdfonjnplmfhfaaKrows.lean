/-
  Rows of instructions by their cells: what is appended, cut, set.
-/
import Derived.Test.YtdfonjnplmfhfaaMd
import Derived.Test.YtdfonjnplmfhfaaKput
namespace Go.Proofs.Ytdfonjnplmfhfaa
open Go.RowKit

/-- What a row of structs holds, as news for append. -/
theorem CellsK.news {K : Nat → Prop} {w : World} {v : Value} {n size : Nat} {f : Nat → Nat → Value → Prop} (h : CellsK K w v n size f) : ∃ us : List Value, us.length = n * size ∧ News w v n us ∧ ∀ j i, j < n → i < size → ∃ u, us[j * size + i]? = some u ∧ f j i u := by
  obtain ⟨A, c, rfl, h1, h2, hn, h3⟩ := h
  rcases Nat.eq_zero_or_pos n with rfl | h0
  · rcases A with _ | a
    · obtain rfl := hn rfl
      exact ⟨[], by simp, .inl ⟨rfl, rfl, rfl⟩, fun j i hj => absurd hj (Nat.not_lt_zero _)⟩
    · exact ⟨[], by simp, .inr ⟨a, c, rfl, fun j u hu => by simp at hu⟩, fun j i hj => absurd hj (Nat.not_lt_zero _)⟩
  · obtain ⟨g, o, rfl, _, hc⟩ := h3 h0
    refine ⟨(List.range (n * size)).map fun j => (w.cell? ⟨g, o + j, none⟩).getD undef, by simp, .inr ⟨_, c, rfl, fun j u hju => ?_⟩, fun j i hj hi => ?_⟩
    · rw [List.getElem?_map] at hju
      rcases Nat.lt_or_ge j (n * size) with hj | hj
      · have hs : 0 < size := Nat.pos_of_ne_zero fun e => by rw [e, Nat.mul_zero] at hj; omega
        have hjs : j / size < n := Nat.div_lt_of_lt_mul (by rw [Nat.mul_comm]; exact hj)
        obtain ⟨u', k1, _⟩ := hc (j / size) (j % size) hjs (Nat.mod_lt _ hs)
        rw [show o + j / size * size + j % size = o + j by have := Nat.div_add_mod j size; rw [Nat.mul_comm] at this; omega] at k1
        rw [List.getElem?_range hj] at hju
        simp only [Option.map_some, k1, Option.getD_some, Option.some.injEq] at hju
        rw [Addr.add_lit, k1, hju]
      · rw [List.getElem?_eq_none (by simpa using hj)] at hju; cases hju
    · obtain ⟨u, k1, k2⟩ := hc j i hj hi
      have hlt : j * size + i < n * size := by
        have : (j + 1) * size ≤ n * size := Nat.mul_le_mul_right size hj
        rw [Nat.succ_mul] at this; omega
      refine ⟨u, ?_, k2⟩
      rw [List.getElem?_map, List.getElem?_range hlt]
      simp only [Option.map_some, ← Nat.add_assoc, k1, Option.getD_some]
/-- A part of a row of structs, to its end. -/
theorem CellsK.drop {K : Nat → Prop} {w : World} {g o n c size : Nat} {f : Nat → Nat → Value → Prop} (h : CellsK K w (.slice (some ⟨g, o, none⟩) n c) n size f) (k : Nat) (hk : k ≤ n) : CellsK K w (.slice (some ⟨g, o + k * size, none⟩) (n - k) (c - k)) (n - k) size (fun j i u => f (k + j) i u) := by
  obtain ⟨A, c', he, h1, h2, hn, h3⟩ := h
  simp only [Value.slice.injEq] at he
  obtain ⟨rfl, -, rfl⟩ := he
  refine ⟨_, _, rfl, by omega, by omega, (fun h => by cases h), fun h0 => ?_⟩
  obtain ⟨g', o', he, hg, hc⟩ := h3 (by omega)
  simp only [Option.some.injEq, Addr.mk.injEq] at he
  obtain ⟨rfl, rfl, _⟩ := he
  refine ⟨_, _, rfl, hg, fun j i hj hi => ?_⟩
  obtain ⟨u, k1, k2⟩ := hc (k + j) i (by omega) hi
  exact ⟨u, by rw [show o + k * size + j * size + i = o + (k + j) * size + i by rw [Nat.add_mul]; omega]; exact k1, k2⟩
/-- The beginning of a row of structs. -/
theorem CellsK.take {K : Nat → Prop} {w : World} {g o n c size : Nat} {f : Nat → Nat → Value → Prop} (h : CellsK K w (.slice (some ⟨g, o, none⟩) n c) n size f) (k : Nat) (hk : k ≤ n) : CellsK K w (.slice (some ⟨g, o, none⟩) k c) k size f := by
  obtain ⟨A, c', he, h1, h2, hn, h3⟩ := h
  simp only [Value.slice.injEq] at he
  obtain ⟨rfl, -, rfl⟩ := he
  refine ⟨_, _, rfl, by omega, h2, (fun h => by cases h), fun h0 => ?_⟩
  obtain ⟨g', o', he, hg, hc⟩ := h3 (by omega)
  simp only [Option.some.injEq, Addr.mk.injEq] at he
  obtain ⟨rfl, rfl, _⟩ := he
  exact ⟨_, _, rfl, hg, fun j i hj hi => hc j i (by omega) hi⟩

/-- Cells of n instructions. -/
def GoodI (K : Nat → Prop) (w : World) (us : List Value) (n : Nat) : Prop := us.length = n * 5 ∧ ∀ j, j < n → ∃ x : Ins, ∀ i, i < 5 → ∃ u, us[j * 5 + i]? = some u ∧ insCell K w x i u
theorem GoodI.keep {K K' : Nat → Prop} {w w' : World} {us : List Value} {n : Nat} (h : GoodI K w us n) (hk : Keeps K w w') (hm : ∀ k, K k → K' k) : GoodI K' w' us n :=
  ⟨h.1, fun j hj => by
    obtain ⟨x, hx⟩ := h.2 j hj
    exact ⟨x, fun i hi => by obtain ⟨u, h1, h2⟩ := hx i hi; exact ⟨u, h1, h2.keep hk hm⟩⟩⟩
theorem CodeK.good {K : Nat → Prop} {w : World} {v : Value} {c : List Ins} (h : CodeK K w v c) : ∃ us, News w v c.length us ∧ GoodI K w us c.length := by
  obtain ⟨us, h1, h2, h3⟩ := CellsK.news h
  exact ⟨us, h2, h1, fun j hj => ⟨_, fun i hi => h3 j i hj hi⟩⟩
theorem GoodI.nil (K : Nat → Prop) (w : World) : GoodI K w [] 0 := ⟨rfl, fun _ hj => absurd hj (Nat.not_lt_zero _)⟩
theorem GoodI.append {K : Nat → Prop} {w : World} {us vs : List Value} {n m : Nat} (h : GoodI K w us n) (k : GoodI K w vs m) : GoodI K w (us ++ vs) (n + m) := by
  refine ⟨by rw [List.length_append, h.1, k.1, Nat.add_mul], fun j hj => ?_⟩
  rcases Nat.lt_or_ge j n with hlt | hge
  · obtain ⟨x, hx⟩ := h.2 j hlt
    refine ⟨x, fun i hi => ?_⟩
    obtain ⟨u, h1, h2⟩ := hx i hi
    exact ⟨u, by rw [List.getElem?_append_left (by rw [h.1]; omega)]; exact h1, h2⟩
  · obtain ⟨x, hx⟩ := k.2 (j - n) (by omega)
    refine ⟨x, fun i hi => ?_⟩
    obtain ⟨u, h1, h2⟩ := hx i hi
    exact ⟨u, by rw [List.getElem?_append_right (by rw [h.1]; omega), h.1, show j * 5 + i - n * 5 = (j - n) * 5 + i by omega]; exact h1, h2⟩
theorem GoodI.take {K : Nat → Prop} {w : World} {us : List Value} {n : Nat} (h : GoodI K w us n) (k : Nat) (hk : k ≤ n) : GoodI K w (us.take (k * 5)) k := by
  refine ⟨by rw [List.length_take, h.1]; omega, fun j hj => ?_⟩
  obtain ⟨x, hx⟩ := h.2 j (by omega)
  refine ⟨x, fun i hi => ?_⟩
  obtain ⟨u, h1, h2⟩ := hx i hi
  exact ⟨u, by rw [List.getElem?_take, if_pos (by omega)]; exact h1, h2⟩
/-- One cell of an instruction is another one. -/
theorem GoodI.set {K : Nat → Prop} {w : World} {us : List Value} {n : Nat} (h : GoodI K w us n) (k i0 : Nat) (hk : k < n) (hi0 : i0 < 5) (u0 : Value) (f : Ins → Ins) (hf : ∀ x, insCell K w (f x) i0 u0 ∧ ∀ i u, i < 5 → i ≠ i0 → insCell K w x i u → insCell K w (f x) i u) : GoodI K w (us.set (k * 5 + i0) u0) n := by
  refine ⟨by rw [List.length_set]; exact h.1, fun j hj => ?_⟩
  obtain ⟨x, hx⟩ := h.2 j hj
  by_cases hjk : j = k
  · subst hjk
    refine ⟨f x, fun i hi => ?_⟩
    by_cases hii : i = i0
    · subst hii
      exact ⟨u0, by rw [List.getElem?_set, if_pos rfl, if_pos (by rw [h.1]; omega)], (hf x).1⟩
    · obtain ⟨u, h1, h2⟩ := hx i hi
      exact ⟨u, by rw [List.getElem?_set, if_neg (by omega)]; exact h1, (hf x).2 i u hi hii h2⟩
  · refine ⟨x, fun i hi => ?_⟩
    obtain ⟨u, h1, h2⟩ := hx i hi
    exact ⟨u, by rw [List.getElem?_set, if_neg (by omega)]; exact h1, h2⟩
theorem insCell_one {K : Nat → Prop} {w : World} (x : Ins) {Lv : Value} (h : IntsK K w Lv x.l) : GoodI K w [.int .i64 x.op, .int .i64 x.a, .int .i64 x.b, .int .u64 x.n, Lv] 1 :=
  ⟨rfl, fun j hj => ⟨x, fun i hi => by
    obtain rfl : j = 0 := by omega
    rcases (show i = 0 ∨ i = 1 ∨ i = 2 ∨ i = 3 ∨ i = 4 by omega) with rfl | rfl | rfl | rfl | rfl
    · exact ⟨_, rfl, rfl⟩
    · exact ⟨_, rfl, rfl⟩
    · exact ⟨_, rfl, rfl⟩
    · exact ⟨_, rfl, rfl⟩
    · exact ⟨_, rfl, h⟩⟩⟩
/-- Cells of instructions that are owned are code. -/
theorem GoodI.code {K : Nat → Prop} {w : World} {base : Nat} {e : TypeId} {v : Value} {n : Nat} {us : List Value} (h : GoodI K w us n) (ho : w.ownsRow base e 5 v n us) (hK : ∀ g, v.ownBlock = some g → K g) : ∃ c : List Ins, c.length = n ∧ CodeK K w v c := by
  have hc : ∀ m, m ≤ n → ∃ c : List Ins, c.length = m ∧ ∀ j, j < m → ∀ i, i < 5 → ∃ u, us[j * 5 + i]? = some u ∧ insCell K w (c.getD j ins0) i u := by
    intro m
    induction m with
    | zero => intro _; exact ⟨[], rfl, fun j hj => absurd hj (Nat.not_lt_zero _)⟩
    | succ m ih =>
      intro hm
      obtain ⟨c, h1, h2⟩ := ih (by omega)
      obtain ⟨x, hx⟩ := h.2 m (by omega)
      refine ⟨c ++ [x], by simp [h1], fun j hj i hi => ?_⟩
      by_cases e : j = m
      · subst e
        rw [List.getD_eq_getElem?_getD, List.getElem?_append_right (by omega), h1, Nat.sub_self]
        exact hx i hi
      · rw [List.getD_eq_getElem?_getD, List.getElem?_append_left (by omega), ← List.getD_eq_getElem?_getD]
        exact h2 j (by omega) i hi
  obtain ⟨c, h1, h2⟩ := hc n (Nat.le_refl _)
  refine ⟨c, h1, ?_⟩
  unfold CodeK
  rw [h1]
  exact owns_cellsK ho _ hK fun j i hj hi => h2 j hj i hi
/-- Each cell of instructions is one. -/
theorem GoodI.ones {K : Nat → Prop} {w : World} {us : List Value} {n : Nat} (h : GoodI K w us n) : ∀ u ∈ us, u.oneCell' = true := by
  intro u hu
  obtain ⟨k, hk, rfl⟩ := List.mem_iff_getElem.1 hu
  have h1 := h.1
  obtain ⟨x, hx⟩ := h.2 (k / 5) (by omega)
  obtain ⟨u', k1, k2⟩ := hx (k % 5) (Nat.mod_lt _ (by omega))
  rw [show k / 5 * 5 + k % 5 = k by omega, List.getElem?_eq_getElem hk] at k1
  obtain rfl := Option.some.inj k1
  rcases (show k % 5 = 0 ∨ k % 5 = 1 ∨ k % 5 = 2 ∨ k % 5 = 3 ∨ k % 5 = 4 by omega) with e | e | e | e | e
  all_goals rw [e] at k2
  · rw [show us[k] = _ from k2]; rfl
  · rw [show us[k] = _ from k2]; rfl
  · rw [show us[k] = _ from k2]; rfl
  · rw [show us[k] = _ from k2]; rfl
  · obtain ⟨A, c, k3, _⟩ := k2
    rw [k3]; rfl
end Go.Proofs.Ytdfonjnplmfhfaa
