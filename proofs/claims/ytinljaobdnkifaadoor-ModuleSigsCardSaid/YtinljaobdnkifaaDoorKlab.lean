/-
  The labels are set anew: what block wants.
-/
import Derived.Test.YtinljaobdnkifaaDoorKleave
namespace Go.Proofs.YtinljaobdnkifaaDoor
open Go.RowKit

/-- The labels are another row, which lies in blocks where the maker's may lie. -/
theorem Gen.setL {F : Fx} {W w : World} {x : St} (h : Gen F W x) (hk : Keeps (fun k => k < W.heap.size) W w) (v : Value) (n : Nat) (hl : LabsK (rfree F w x) w v n) :
    Gen F (w.setCell ⟨F.G, 13, none⟩ v) { x with lv := v, nl := n } ∧ Step F W x (w.setCell ⟨F.G, 13, none⟩ v) { x with lv := v, nl := n } := by
  obtain ⟨_, _, l3, l4⟩ := h.lts
  have hm : ∀ k, priv F { x with lv := v, nl := n } k → priv F x k ∨ W.heap.size ≤ k := fun _ hp => .inl hp
  have hk2 : Keeps (fun k => k < W.heap.size ∧ x.sv.ownBlock ≠ some k ∧ x.cv.ownBlock ≠ some k) W w := hk.mono fun _ h => h.1
  obtain ⟨r1, r2⟩ := reads_on (x' := { x with lv := v, nl := n }) hk2 hm
  have hr := h.reads.keep r1 r2
  exact h.store hk2 13 v (by rfl) rfl (owns_keep h.so hk fun g hg => l3 g hg) h.sp (owns_keep h.co hk fun g hg => l4 g hg) h.cp hm
    ⟨hr.tape, hr.loc, hr.own, hr.types, hr.imps, hr.funs, hr.mems, hr.globs, hr.datas, hl, hr.code, hr.nest⟩
/-- A row of lists that the code owns. -/
theorem owns_labs {K : Nat → Prop} {w : World} {base : Nat} {e : TypeId} {v : Value} {n : Nat} {us : List Value} (h : w.ownsRow base e 1 v n us) (hus : ∀ u ∈ us, ∃ l : List Int, l.length ≤ 3 ∧ IntsK K w u l) (hK : ∀ g, v.ownBlock = some g → K g) : LabsK K w v n := by
  have hl : us.length = n := by have := h.1; omega
  rcases h.2 with ⟨rfl, rfl⟩ | ⟨g, cap, cur, rfl, _, _, hc, hm, _⟩
  · exact ⟨none, 0, rfl, Nat.le_refl _, Nat.zero_le _, fun _ => rfl, fun h => by omega⟩
  · refine ⟨_, cap, rfl, hc, hm, (fun h => by cases h), fun _ => ⟨g, 0, rfl, hK g rfl, fun j i hj hi => ?_⟩⟩
    obtain rfl : i = 0 := by omega
    have hj2 : j < us.length := by omega
    refine ⟨us[j], ?_, hus _ (List.getElem_mem hj2)⟩
    rw [show 0 + j * 1 + 0 = j by omega, h.cellAt j (by omega), List.getElem?_eq_getElem hj2]
/-- The labels as news for append: their cells. -/
theorem LabsK.news {K : Nat → Prop} {w : World} {v : Value} {n : Nat} (h : LabsK K w v n) : ∃ us : List Value, us.length = n ∧ News w v n us ∧ ∀ u ∈ us, ∃ l : List Int, l.length ≤ 3 ∧ IntsK K w u l := by
  obtain ⟨A, c, rfl, _, _, hn, h3⟩ := h
  rcases Nat.eq_zero_or_pos n with rfl | h0
  · rcases A with _ | a
    · obtain rfl := hn rfl
      exact ⟨[], rfl, .inl ⟨rfl, rfl, rfl⟩, by simp⟩
    · exact ⟨[], rfl, .inr ⟨a, c, rfl, fun j u hu => by simp at hu⟩, by simp⟩
  · obtain ⟨g, o, rfl, _, hc⟩ := h3 h0
    have hu : ∀ j, j < n → ∃ u, w.cell? ⟨g, o + j, none⟩ = some u ∧ ∃ l : List Int, l.length ≤ 3 ∧ IntsK K w u l := fun j hj => by
      obtain ⟨u, k1, k2⟩ := hc j 0 hj (by omega)
      exact ⟨u, by simpa using k1, k2⟩
    refine ⟨(List.range n).map fun j => (w.cell? ⟨g, o + j, none⟩).getD undef, by simp, .inr ⟨_, c, rfl, fun j u hju => ?_⟩, fun u hu' => ?_⟩
    · rw [List.getElem?_map] at hju
      rcases Nat.lt_or_ge j n with hj | hj
      · obtain ⟨u', k1, _⟩ := hu j hj
        rw [List.getElem?_range hj] at hju
        simp only [Option.map_some, k1, Option.getD_some, Option.some.injEq] at hju
        rw [Addr.add_lit, k1, hju]
      · rw [List.getElem?_eq_none (by simpa using hj)] at hju; cases hju
    · obtain ⟨j, hj, rfl⟩ := List.mem_map.1 hu'
      obtain ⟨u', k1, k2⟩ := hu j (List.mem_range.1 hj)
      rw [k1]
      exact k2
end Go.Proofs.YtinljaobdnkifaaDoor
