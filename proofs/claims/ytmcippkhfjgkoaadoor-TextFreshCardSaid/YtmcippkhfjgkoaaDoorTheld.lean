/-
  A row of strings that the call owns, and that grows.
-/
import Derived.Test.YtmcippkhfjgkoaaDoorTstr
import Derived.Laws.OwnMore
namespace Go.Proofs.YtmcippkhfjgkoaaDoor
open Go.RowKit

theorem Tryd.info_string : (Tryd.prog.info? 9).map (fun i => (i.zero, i.size, i.bytes)) = some (some (.string ⟨#[]⟩), 1, 16) := by kernel_rfl
/-- The value v is a row of the call's own: the j strings T; nothing older has turned. -/
structure HeldT (w : World) (v : Value) (T : List ByteArray) (j : Nat) (wr : World) : Prop where
  len : T.length = j
  own : wr.ownsRow w.heap.size 9 1 v j (T.map Value.string)
  acc : Below w.heap.size w wr
theorem HeldT.nil (w wr : World) (h : Below w.heap.size w wr) : HeldT w (.slice none 0 0) [] 0 wr := ⟨rfl, World.ownsRow_nil wr _ _ _, h⟩
theorem HeldT.next {w wr w' : World} {v : Value} {T : List ByteArray} {j : Nat} (h : HeldT w v T j wr) (hb : Below wr.heap.size wr w') : HeldT w v T j w' := ⟨h.len, owns_below h.own hb, below_then h.acc hb⟩
theorem HeldT.names {w wr : World} {v : Value} {T : List ByteArray} {j : Nat} (h : HeldT w v T j wr) : ∃ A c, v = .slice A j c ∧ j ≤ c ∧ Names wr A T := by
  rcases h.own.2 with ⟨rfl, h0⟩ | ⟨g, cap, cur, rfl, _, hcur, hc, _⟩
  · subst h0
    exact ⟨none, 0, rfl, Nat.le_refl _, fun h1 => by have := h.len; omega⟩
  · refine ⟨_, cap, rfl, hc, fun _ => ⟨g, 0, rfl, (Array.getElem?_eq_some_iff.1 hcur).1, fun i hi => ?_⟩⟩
    have h3 := h.own.cells (g := g) rfl i (.string (T.getD i ByteArray.empty)) (by simp [hi])
    rw [add_lit0] at h3
    rw [Nat.zero_add]
    exact h3
/-- append of one string, for the walk. -/
theorem wpList_push {ops : Array Oper} {rest : List Oper} {o : Oper} {a : Act} {Q : Exit → Act → World → Prop} (hgd : o.guard = none) (s x : Operand)
    (ho : o.op = .call { callee := .builtin .append, args := #[s, x], argTypes := #[24, 24] })
    (w0 wr : World) (v : Value) (T : List ByteArray) (j : Nat) (hh : HeldT w0 v T j wr) (hs : a.eval s = v) (t : ByteArray) (hx : a.eval x = .slice (some ⟨wr.heap.size, 0, none⟩) 1 1) (hj : j ≤ 1000)
    (h : ∀ v' w', HeldT w0 v' (T ++ [t]) (j + 1) w' → wpList Tryd.prog ops Q rest (a.put o.dst v') w') : wpList Tryd.prog ops Q (o :: rest) a (wr.alloc (.cells #[.string t] 9)) := by
  obtain ⟨i0, hi, hz0, hz1, hz2⟩ := info_parts Tryd.info_string
  refine wpList_append_own _ hgd s x 24 ho w0.heap.size 9 i0 _ 1 16 Tryd.underlying24 hi hz0 hz1 hz2 rfl (by decide) v j (T.map Value.string) hs (hh.own.alloc _) ⟨wr.heap.size, 0, none⟩ 1 1 [.string t] hx rfl ?_ (by simp [Value.oneCell']) (by unfold maxLen; omega) (by omega) ?_ ?_
  · intro i u hu
    have h0 : i = 0 := by
      rcases Nat.eq_zero_or_pos i with h | h
      · exact h
      · rw [List.getElem?_eq_none (by simp; omega)] at hu; cases hu
    subst h0
    have e : (⟨wr.heap.size, 0, none⟩ : Addr).add 0 = ⟨wr.heap.size, 0, none⟩ := add_lit0 _ _
    rw [e, World.cell?_alloc_new]
    simpa using hu
  · exact Nat.le_trans hh.acc.size (by simp)
  · intro v' w' hown hgr _
    refine h v' w' ⟨by rw [List.length_append, hh.len]; rfl, by rw [List.map_append]; exact hown, ?_⟩
    exact (hh.acc.alloc hh.acc.size _).grown hgr (Nat.le_trans hh.acc.size (by simp)) (fun k hk => (hh.own.lt k hk).1)
end Go.Proofs.YtmcippkhfjgkoaaDoor
