/-
  append of bytes (a source that is nil, empty or not) onto a row of the call's own: the new row, and the old one as it was.
-/
import Derived.Test.YtljhdibnnaepdaaLrow
import Derived.Maps.AppendAt
namespace Go.Proofs.Ytljhdibnnaepdaa
open Go.RowKit

theorem Bytes.news {w : World} {ad : Addr} {l : List Nat} (h : Bytes w (some ad) l) : ∀ j u, (l.map byt)[j]? = some u → w.cell? (ad.add j) = some u := by
  intro j u hu
  obtain ⟨x, hx, rfl⟩ : ∃ x, l[j]? = some x ∧ byt x = u := by simpa using hu
  have hj : j < l.length := by
    rcases Nat.lt_or_ge j l.length with h1 | h1
    · exact h1
    · rw [List.getElem?_eq_none h1] at hx; cases hx
  obtain ⟨g, o, he, _, hc⟩ := h.2 (by omega)
  obtain rfl : ad = ⟨g, o, none⟩ := by simpa using he
  rw [Addr.add_lit, hc j hj, List.getD_eq_getElem?_getD, hx]
  rfl
/-- What an append of bytes leaves. -/
structure Appended (w w' : World) (base g g' n m cap' : Nat) (xs ys : List Nat) : Prop where
  own : w'.ownsRow base 5 1 (.slice (some ⟨g', 0, none⟩) (n + m) cap') (n + m) ((xs ++ ys).map byt)
  grown : w.grownBy w' (some g)
  kept : ∀ j, j < n → w'.cell? ⟨g, j, none⟩ = w.cell? ⟨g, j, none⟩
  at_ : g' = g ∨ g' = w.heap.size

theorem run_append_bytes (w : World) (ty : TypeId) (base g n cap : Nat) (xs : List Nat) (hown : w.ownsRow base 5 1 (.slice (some ⟨g, 0, none⟩) n cap) n (xs.map byt)) (A : Option Addr) (m c : Nat) (ys : List Nat) (hm : ys.length = m) (hsrc : Bytes w A ys)
    (hnm : n + m ≤ 1000000) (hbase : base ≤ w.heap.size) :
    ∃ g' cap' w', (Builtin.append_ #[27, 27] ty #[.slice (some ⟨g, 0, none⟩) n cap, .slice A m c]).run Try.prog w = .ok (.slice (some ⟨g', 0, none⟩) (n + m) cap') w' ∧ Appended w w' base g g' n m cap' xs ys := by
  obtain ⟨i0, hi, hz0, hz1, hz2⟩ := info_parts Try.info_byte
  have hg : g < w.heap.size := (hown.lt g rfl).2
  rcases A with _ | ad
  · have h0 : m = 0 := by
      rcases Nat.eq_zero_or_pos m with h0 | h0
      · exact h0
      · obtain ⟨_, _, h, _⟩ := hsrc.2 (by omega); cases h
    subst h0
    obtain rfl : ys = [] := List.eq_nil_of_length_eq_zero hm
    refine ⟨g, cap, w, ?_, by simpa using hown, World.grownBy.refl w _, fun _ _ => rfl, .inl rfl⟩
    rcases hown.2 with ⟨h, _⟩ | ⟨g', cap', cur, h, _, _, hnc, _⟩
    · cases h
    · simp only [Value.slice.injEq, Option.some.injEq, Addr.mk.injEq] at h
      obtain ⟨⟨rfl, _⟩, _, rfl⟩ := h
      simp [Builtin.append_, run_underlying Try.underlying27, sizeOf, typeInfo, hi, Builtin.lenOf, Builtin.firstCells, hnc, storeCells]
  · have hn := hsrc.news
    have hl : (ys.map byt).length = m * i0.size := by rw [hz1]; simpa using hm
    have h1 : ∀ u ∈ ys.map byt, u.oneCell' = true := bytes_one ys
    obtain ⟨v', w', hr, h2, h3, _, h5⟩ := run_append_own_at (P := Try.prog) w base 27 ty 5 i0 _ 1 1 Try.underlying27 hi hz0 hz1 hz2 rfl (by decide) _ n (xs.map byt) hown ad m c (ys.map byt) (by simpa using hm) hn h1 (by unfold maxLen; omega) (by omega) hbase
    have hgr : w.grownBy w' (some g) := h3
    rw [← List.map_append] at h2
    rcases hown.2 with ⟨h, _⟩ | ⟨g0, cap0, cur, h, _, hcur, hnc, _, hcs, htake⟩
    · cases h
    · simp only [Value.slice.injEq, Option.some.injEq, Addr.mk.injEq] at h
      obtain ⟨⟨rfl, _⟩, _, rfl⟩ := h
      by_cases hroom : n + m ≤ cap
      · have hr2 := run_append_room (P := Try.prog) w 27 ty 5 i0 Try.underlying27 hi g n cap cur hcur ad m c (ys.map byt) hl hn h1 hroom (by rw [hz1, hcs, List.length_map]; omega)
        have e := hr.symm.trans hr2
        simp only [Result.ok.injEq] at e
        obtain ⟨rfl, -⟩ := e
        refine ⟨g, cap, w', hr, h2, hgr, fun j hj => ?_, .inl rfl⟩
        have hxl : xs.length = n := by have := hown.1; simpa using this
        have hjx : j < xs.length := by omega
        have c1 := h2.cells (g := g) rfl j (byt (xs.getD j 0)) (by simp [hjx, List.getElem?_append])
        have c2 := hown.cells (g := g) rfl j (byt (xs.getD j 0)) (by simp [hjx])
        rw [add_lit0] at c1 c2
        rw [c1, c2]
      · have hr2 := run_append_grow (P := Try.prog) w 27 ty 5 i0 _ Try.underlying27 hi hz0 ⟨g, 0, none⟩ n cap (xs.map byt) (by rw [hz1]; exact hown.1) (hown.cells (g := g) rfl) ad m c (ys.map byt) hl hn (by omega) (by omega) (growslice_fits (by omega) (by rw [hz2]; omega))
        have e := hr.symm.trans hr2
        simp only [Result.ok.injEq] at e
        obtain ⟨rfl, rfl⟩ := e
        refine ⟨w.heap.size, _, _, hr, h2, hgr, fun j hj => ?_, .inr rfl⟩
        rw [World.cell?_alloc_lt _ _ _ (by exact hg)]
        rfl

theorem wp_append_bytes {o : Oper} {a : Act} {w : World} {K : Act → World → Prop} {Q : Exit → Act → World → Prop} (s x : Operand)
    (ho : o.op = .call { callee := .builtin .append, args := #[s, x], argTypes := #[27, 27] })
    (base g n cap : Nat) (xs : List Nat) (hs : a.eval s = .slice (some ⟨g, 0, none⟩) n cap) (hown : w.ownsRow base 5 1 (.slice (some ⟨g, 0, none⟩) n cap) n (xs.map byt)) (A : Option Addr) (m c : Nat) (ys : List Nat) (hx : a.eval x = .slice A m c) (hm : ys.length = m) (hsrc : Bytes w A ys)
    (hnm : n + m ≤ 1000000) (hbase : base ≤ w.heap.size)
    (h : ∀ g' cap' w', Appended w w' base g g' n m cap' xs ys → K (a.put o.dst (.slice (some ⟨g', 0, none⟩) (n + m) cap')) w') : o.wp Try.prog a w K Q := by
  obtain ⟨g', cap', w', hr, h2⟩ := run_append_bytes w o.type base g n cap xs hown A m c ys hm hsrc hnm hbase
  unfold Oper.wp execOp
  simp only [ho, resolve, invoke, builtin, Sem.run_bind, Sem.run_pure, Result.andThen_ok, List.map_toArray, List.map_cons, List.map_nil, hs, hx, hr]
  exact h g' cap' w' h2
theorem wpList_append_bytes {ops : Array Oper} {rest : List Oper} {o : Oper} {a : Act} {w : World} {Q : Exit → Act → World → Prop} (hgd : o.guard = none) (s x : Operand)
    (ho : o.op = .call { callee := .builtin .append, args := #[s, x], argTypes := #[27, 27] })
    (base g n cap : Nat) (xs : List Nat) (hs : a.eval s = .slice (some ⟨g, 0, none⟩) n cap) (hown : w.ownsRow base 5 1 (.slice (some ⟨g, 0, none⟩) n cap) n (xs.map byt)) (A : Option Addr) (m c : Nat) (ys : List Nat) (hx : a.eval x = .slice A m c) (hm : ys.length = m) (hsrc : Bytes w A ys)
    (hnm : n + m ≤ 1000000) (hbase : base ≤ w.heap.size)
    (h : ∀ g' cap' w', Appended w w' base g g' n m cap' xs ys → wpList Try.prog ops Q rest (a.put o.dst (.slice (some ⟨g', 0, none⟩) (n + m) cap')) w') : wpList Try.prog ops Q (o :: rest) a w :=
  wpList_plain hgd fun _ hK => wp_append_bytes s x ho base g n cap xs hs hown A m c ys hx hm hsrc hnm hbase fun g' cap' w' h2 => hK _ _ (h g' cap' w' h2)
end Go.Proofs.Ytljhdibnnaepdaa
