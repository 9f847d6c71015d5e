/-
  append onto a row that the code owns: the old row stays what it was, too.
-/
import Derived.Test.YtdfonjnplmfhfaaKrow
namespace Go.Proofs.Ytdfonjnplmfhfaa
open Go.RowKit

theorem run_append_both (w : World) (t ty e : TypeId) (z : Value) (size bytes : Nat) (ht : Try.prog.underlying t = some (.slice e)) (hinfo : (Try.prog.info? e).map (fun i => (i.zero, i.size, i.bytes)) = some (some z, size, bytes))
    (hzs : z.cells.size = size) (hsz : 0 < size) (v : Value) (n : Nat) (xs : List Value) (hown : w.ownsRow 0 e size v n xs) (src : Value) (m : Nat) (news : List Value) (hl : news.length = m * size) (hsrc : News w src m news)
    (h1 : ∀ u ∈ news, u.oneCell' = true) (hnm : n + m ≤ 1000000) (hb : bytes ≤ 1000) :
    ∃ v' w', (Builtin.append_ #[t, t] ty #[v, src]).run Try.prog w = .ok v' w' ∧ w'.ownsRow 0 e size v' (n + m) (xs ++ news) ∧ w.grownBy w' v.ownBlock ∧ (v'.ownBlock = v.ownBlock ∨ v'.ownBlock = some w.heap.size) ∧ w'.ownsRow 0 e size v n xs := by
  obtain ⟨v', w', hr, h2, h3, h5⟩ := run_append_row w t ty e z size bytes ht hinfo hzs hsz v n xs hown src m news hl hsrc h1 hnm hb
  refine ⟨v', w', hr, h2, h3, h5, ?_⟩
  obtain ⟨i0, hi, hz0, hz1, hz2⟩ := info_parts hinfo
  rcases hsrc with ⟨rfl, rfl, rfl⟩ | ⟨ad, c, rfl, hcell⟩
  · have hv : v' = v := by
      have e2 : (Builtin.append_ #[t, t] ty #[v, .slice none 0 0]).run Try.prog w = .ok v w := by
        rcases hown.2 with ⟨rfl, h⟩ | ⟨g', cap', cur, rfl, _, _, hnc, _⟩
        · simp [Builtin.append_, run_underlying ht, sizeOf, typeInfo, hi, Builtin.lenOf, Builtin.firstCells]
        · simp [Builtin.append_, run_underlying ht, sizeOf, typeInfo, hi, Builtin.lenOf, Builtin.firstCells, hnc, storeCells]
      have e3 := hr.symm.trans e2
      simp only [Result.ok.injEq] at e3
      exact e3.1
    subst hv
    simpa using h2
  · rcases hown.2 with ⟨rfl, h⟩ | ⟨g, cap, cur, rfl, _, hcur, hnc, _, hcs, htake⟩
    · have hx := hown.1
      subst h
      simp only [Nat.zero_mul, List.length_eq_zero_iff] at hx
      subst hx
      exact World.ownsRow_nil _ _ _ _
    · by_cases hroom : n + m ≤ cap
      · have hr2 := run_append_room (P := Try.prog) w t ty e i0 ht hi g n cap cur hcur ad m c news (by rw [hz1]; exact hl) hcell h1 hroom (by rw [hz1, hcs, hl, ← Nat.add_mul]; exact Nat.mul_le_mul_right _ hroom)
        have e3 := hr.symm.trans hr2
        simp only [Result.ok.injEq] at e3
        obtain ⟨rfl, -⟩ := e3
        have h4 := owns_cut (m := n) h2 (Nat.le_add_right n m)
        rw [← hown.1, List.take_left] at h4
        exact h4
      · have hb2 : (n + m) * bytes ≤ 1000000 * 1000 := Nat.mul_le_mul hnm hb
        have hr2 := run_append_grow (P := Try.prog) w t ty e i0 z ht hi hz0 ⟨g, 0, none⟩ n cap xs (by rw [hz1]; exact hown.1) (hown.cells (g := g) rfl) ad m c news (by rw [hz1]; exact hl) hcell (by omega) (by omega) (growslice_fits (by omega) (by rw [hz2]; omega))
        have e3 := hr.symm.trans hr2
        simp only [Result.ok.injEq] at e3
        obtain ⟨-, rfl⟩ := e3
        exact (World.ownsRow.drew hown).alloc _
theorem wpList_append_both {ops : Array Oper} {rest : List Oper} {o : Oper} {a : Act} {w : World} {Q : Exit → Act → World → Prop} (hw : Region.wanted o (yielded ops a.tmps) = true) (s x : Operand) (t e : TypeId)
    (ho : o.op = .call { callee := .builtin .append, args := #[s, x], argTypes := #[t, t] }) (z : Value) (size bytes : Nat) (ht : Try.prog.underlying t = some (.slice e)) (hinfo : (Try.prog.info? e).map (fun i => (i.zero, i.size, i.bytes)) = some (some z, size, bytes))
    (hzs : z.cells.size = size) (hsz : 0 < size) (hb : bytes ≤ 1000) (v : Value) (n : Nat) (xs : List Value) (hs : a.eval s = v) (hown : w.ownsRow 0 e size v n xs) (src : Value) (m : Nat) (news : List Value) (hx : a.eval x = src) (hl : news.length = m * size) (hsrc : News w src m news)
    (h1 : ∀ u ∈ news, u.oneCell' = true) (hnm : n + m ≤ 1000000)
    (hk : ∀ v' w', w'.ownsRow 0 e size v' (n + m) (xs ++ news) → w.grownBy w' v.ownBlock → (v'.ownBlock = v.ownBlock ∨ v'.ownBlock = some w.heap.size) → w'.ownsRow 0 e size v n xs → wpList Try.prog ops Q rest (a.put o.dst v') w') : wpList Try.prog ops Q (o :: rest) a w := by
  refine BigFrame.wpList_want hw fun K hK => ?_
  obtain ⟨v', w', hr, h2, h3, h5, h6⟩ := run_append_both w t o.type e z size bytes ht hinfo hzs hsz v n xs hown src m news hl hsrc h1 hnm hb
  unfold Oper.wp execOp
  simp only [ho, resolve, invoke, builtin, Sem.run_bind, Sem.run_pure, Result.andThen_ok, List.map_toArray, List.map_cons, List.map_nil, hs, hx, hr]
  exact hK _ _ (hk v' w' h2 h3 h5 h6)
end Go.Proofs.Ytdfonjnplmfhfaa
