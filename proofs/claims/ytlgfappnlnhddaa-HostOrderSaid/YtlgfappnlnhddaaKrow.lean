/-
  Rows in memory whose cells lie in blocks that stay as they are; append of a row onto one that the code owns.
-/
import Derived.Test.YtlgfappnlnhddaaProg
import Derived.Test.YtlgfappnlnhddaaBase
import Derived.Laws.OwnMore
import Derived.Maps.AppendAt
import Derived.BigFrame
namespace Go.Proofs.Ytlgfappnlnhddaa
open Go.RowKit

/-- The blocks of K are as they were; the streams too; no block has gone. -/
structure Keeps (K : Nat → Prop) (w w' : World) : Prop where
  os : w'.os = w.os
  tape : w'.tape = w.tape
  output : w'.output = w.output
  size : w.heap.size ≤ w'.heap.size
  block : ∀ k, K k → w'.heap[k]? = w.heap[k]?
theorem Keeps.refl (K : Nat → Prop) (w : World) : Keeps K w w := ⟨rfl, rfl, rfl, Nat.le_refl _, fun _ _ => rfl⟩
theorem Keeps.trans {K : Nat → Prop} {a b c : World} (h : Keeps K a b) (k : Keeps K b c) : Keeps K a c :=
  ⟨k.os.trans h.os, k.tape.trans h.tape, k.output.trans h.output, Nat.le_trans h.size k.size, fun i hi => (k.block i hi).trans (h.block i hi)⟩
theorem Keeps.mono {K K' : Nat → Prop} {w w' : World} (h : Keeps K w w') (hK : ∀ k, K' k → K k) : Keeps K' w w' := ⟨h.os, h.tape, h.output, h.size, fun k hk => h.block k (hK k hk)⟩
theorem Keeps.below {K : Nat → Prop} {B : Nat} {w w' : World} (h : Below B w w') (hK : ∀ k, K k → k < B) : Keeps K w w' := ⟨h.os, h.tape, h.output, h.size, fun k hk => h.block k (hK k hk)⟩
theorem Keeps.to_below {K : Nat → Prop} {B : Nat} {w w' : World} (h : Keeps K w w') (hK : ∀ k, k < B → K k) : Below B w w' := ⟨h.os, h.tape, h.output, h.size, fun k hk => h.block k (hK k hk)⟩
theorem Keeps.alloc {K : Nat → Prop} (w : World) (hK : ∀ k, K k → k < w.heap.size) (o : Obj) : Keeps K w (w.alloc o) := .below ((Below.refl w.heap.size w).alloc (Nat.le_refl _) o) hK
theorem Keeps.setCell {K : Nat → Prop} (w : World) {p : Addr} (hp : ¬ K p.block) (u : Value) : Keeps K w (w.setCell p u) :=
  ⟨rfl, rfl, rfl, by simp [World.setCell], fun k hk => Below.heap_setCell _ _ _ _ (fun e => hp (e ▸ hk))⟩
theorem Keeps.grown {K : Nat → Prop} {w w' : World} {row : Option Nat} (hg : w.grownBy w' row) (hK : ∀ k, K k → k < w.heap.size) (hr : ∀ k, row = some k → ¬ K k) : Keeps K w w' :=
  ⟨hg.os, hg.tape, hg.output, hg.size, fun k hk => hg.block k (hK k hk) (fun e => hr k e.symm hk)⟩
theorem Keeps.drewN {K : Nat → Prop} (w : World) (n : Nat) : Keeps K w (w.drewN n) := ⟨rfl, rfl, rfl, Nat.le_refl _, fun _ _ => rfl⟩
theorem Keeps.cell {K : Nat → Prop} {w w' : World} (h : Keeps K w w') {p : Addr} (hp : K p.block) : w'.cell? p = w.cell? p := World.cell?_of_block (w := w) (h.block p.block hp)

/-- The slice v reads as the integers l; its cells lie in blocks of K. -/
def IntsK (K : Nat → Prop) (w : World) (v : Value) (l : List Int) : Prop :=
  ∃ A c, v = .slice A l.length c ∧ l.length ≤ maxLen ∧ (A = none → c = 0) ∧ (0 < l.length → ∃ g o : Nat, A = some ⟨g, o, none⟩ ∧ K g ∧ ∀ j, j < l.length → w.cell? ⟨g, o + j, none⟩ = some (.int .i64 (l.getD j 0)))
theorem IntsK.keep {K K' : Nat → Prop} {w w' : World} {v : Value} {l : List Int} (h : IntsK K w v l) (hk : Keeps K w w') (hm : ∀ k, K k → K' k) : IntsK K' w' v l := by
  obtain ⟨A, c, rfl, h1, h0, h3⟩ := h
  refine ⟨A, c, rfl, h1, h0, fun hl => ?_⟩
  obtain ⟨g, o, rfl, h4, h5⟩ := h3 hl
  exact ⟨g, o, rfl, hm g h4, fun j hj => (hk.cell (p := ⟨g, o + j, none⟩) h4).trans (h5 j hj)⟩
theorem IntsK.nil (K : Nat → Prop) (w : World) : IntsK K w (.slice none 0 0) [] := ⟨none, 0, rfl, Nat.zero_le _, fun _ => rfl, fun h => by simp at h⟩

theorem IntsK.at_ {K : Nat → Prop} {w : World} {g o n c : Nat} {l : List Int} (h : IntsK K w (.slice (some ⟨g, o, none⟩) n c) l) (j : Nat) (hj : j < n) : w.cell? ⟨g, o + j, none⟩ = some (.int .i64 (l.getD j 0)) := by
  obtain ⟨A, c', he, _, _, h3⟩ := h
  simp only [Value.slice.injEq] at he
  obtain ⟨rfl, rfl, rfl⟩ := he
  obtain ⟨g', o', he, _, h5⟩ := h3 (by omega)
  simp only [Option.some.injEq, Addr.mk.injEq] at he
  obtain ⟨rfl, rfl, _⟩ := he
  exact h5 j hj
theorem IntsK.some_ {K : Nat → Prop} {w : World} {v : Value} {l : List Int} (h : IntsK K w v l) (hl : 0 < l.length) : ∃ g o c : Nat, v = .slice (some ⟨g, o, none⟩) l.length c ∧ l.length ≤ maxLen ∧ True := by
  obtain ⟨A, c, rfl, h1, _, h3⟩ := h
  obtain ⟨g, o, rfl, _⟩ := h3 hl
  exact ⟨g, o, c, rfl, h1, trivial⟩
theorem IntsK.form {K : Nat → Prop} {w : World} {v : Value} {l : List Int} (h : IntsK K w v l) : ∃ A c, v = .slice A l.length c ∧ l.length ≤ maxLen ∧ True := by
  obtain ⟨A, c, rfl, h1, _⟩ := h
  exact ⟨A, c, rfl, h1, trivial⟩
theorem Try.infoInt : (Try.prog.info? 3).map (fun i => (i.zero, i.size, i.bytes)) = some (some (.int .i64 0), 1, 8) := by kernel_rfl

/-- What a source of append holds: nothing, or cells in memory. -/
def News (w : World) (v : Value) (m : Nat) (news : List Value) : Prop :=
  (v = .slice none 0 0 ∧ m = 0 ∧ news = []) ∨ ∃ a c, v = .slice (some a) m c ∧ (∀ j u, news[j]? = some u → w.cell? (a.add j) = some u)
theorem IntsK.news {K : Nat → Prop} {w : World} {v : Value} {l : List Int} (h : IntsK K w v l) : News w v l.length (l.map (Value.int .i64)) := by
  obtain ⟨A, c, rfl, h1, hn, h3⟩ := h
  rcases A with _ | a
  · have h0 : l.length = 0 := by
      rcases Nat.eq_zero_or_pos l.length with h0 | h0
      · exact h0
      · obtain ⟨_, _, h, _⟩ := h3 h0; cases h
    obtain rfl : l = [] := List.eq_nil_of_length_eq_zero h0
    obtain rfl := hn rfl
    exact .inl ⟨rfl, rfl, rfl⟩
  · refine .inr ⟨a, c, rfl, fun j u hu => ?_⟩
    obtain ⟨x, hx, rfl⟩ : ∃ x, l[j]? = some x ∧ Value.int .i64 x = u := by simpa using hu
    have hj : j < l.length := by
      rcases Nat.lt_or_ge j l.length with h1 | h1
      · exact h1
      · rw [List.getElem?_eq_none h1] at hx; cases hx
    obtain ⟨g, o, he, _, hc⟩ := h3 (by omega)
    obtain rfl : a = ⟨g, o, none⟩ := by simpa using he
    rw [Addr.add_lit, hc j hj, List.getD_eq_getElem?_getD, hx]
    rfl

/-- append of any row onto one that the code owns. -/
theorem run_append_row (w : World) (t ty e : TypeId) (z : Value) (size bytes : Nat) (ht : Try.prog.underlying t = some (.slice e)) (hinfo : (Try.prog.info? e).map (fun i => (i.zero, i.size, i.bytes)) = some (some z, size, bytes))
    (hzs : z.cells.size = size) (hsz : 0 < size) (v : Value) (n : Nat) (xs : List Value) (hown : w.ownsRow 0 e size v n xs) (src : Value) (m : Nat) (news : List Value) (hl : news.length = m * size) (hsrc : News w src m news)
    (h1 : ∀ u ∈ news, u.oneCell' = true) (hnm : n + m ≤ 1000000) (hb : bytes ≤ 1000) :
    ∃ v' w', (Builtin.append_ #[t, t] ty #[v, src]).run Try.prog w = .ok v' w' ∧ w'.ownsRow 0 e size v' (n + m) (xs ++ news) ∧ w.grownBy w' v.ownBlock ∧ (v'.ownBlock = v.ownBlock ∨ v'.ownBlock = some w.heap.size) := by
  obtain ⟨i0, hi, hz0, hz1, hz2⟩ := info_parts hinfo
  rcases hsrc with ⟨rfl, rfl, rfl⟩ | ⟨a, c, rfl, hcell⟩
  · refine ⟨v, w, ?_, by simpa using hown, World.grownBy.refl w _, .inl rfl⟩
    rcases hown.2 with ⟨rfl, h⟩ | ⟨g', cap', cur, rfl, _, _, hnc, _⟩
    · simp [Builtin.append_, run_underlying ht, sizeOf, typeInfo, hi, Builtin.lenOf, Builtin.firstCells]
    · simp [Builtin.append_, run_underlying ht, sizeOf, typeInfo, hi, Builtin.lenOf, Builtin.firstCells, hnc, storeCells]
  · have hb2 : (n + m) * bytes ≤ 1000000 * 1000 := Nat.mul_le_mul hnm hb
    obtain ⟨v', w', hr, h2, h3, _, h5⟩ := run_append_own_at (P := Try.prog) w 0 t ty e i0 z size bytes ht hi hz0 hz1 hz2 hzs hsz v n xs hown a m c news hl hcell h1 (by unfold maxLen; omega) (by omega) (Nat.zero_le _)
    exact ⟨v', w', hr, h2, h3, h5⟩
/-- The same, for the walk; the operation may be guarded. -/
theorem wpList_append_row {ops : Array Oper} {rest : List Oper} {o : Oper} {a : Act} {w : World} {Q : Exit → Act → World → Prop} (hw : Region.wanted o (yielded ops a.tmps) = true) (s x : Operand) (t e : TypeId)
    (ho : o.op = .call { callee := .builtin .append, args := #[s, x], argTypes := #[t, t] }) (z : Value) (size bytes : Nat) (ht : Try.prog.underlying t = some (.slice e)) (hinfo : (Try.prog.info? e).map (fun i => (i.zero, i.size, i.bytes)) = some (some z, size, bytes))
    (hzs : z.cells.size = size) (hsz : 0 < size) (hb : bytes ≤ 1000) (v : Value) (n : Nat) (xs : List Value) (hs : a.eval s = v) (hown : w.ownsRow 0 e size v n xs) (src : Value) (m : Nat) (news : List Value) (hx : a.eval x = src) (hl : news.length = m * size) (hsrc : News w src m news)
    (h1 : ∀ u ∈ news, u.oneCell' = true) (hnm : n + m ≤ 1000000)
    (hk : ∀ v' w', w'.ownsRow 0 e size v' (n + m) (xs ++ news) → w.grownBy w' v.ownBlock → (v'.ownBlock = v.ownBlock ∨ v'.ownBlock = some w.heap.size) → wpList Try.prog ops Q rest (a.put o.dst v') w') : wpList Try.prog ops Q (o :: rest) a w := by
  refine BigFrame.wpList_want hw fun K hK => ?_
  obtain ⟨v', w', hr, h2, h3, h5⟩ := run_append_row w t o.type e z size bytes ht hinfo hzs hsz v n xs hown src m news hl hsrc h1 hnm hb
  unfold Oper.wp execOp
  simp only [ho, resolve, invoke, builtin, Sem.run_bind, Sem.run_pure, Result.andThen_ok, List.map_toArray, List.map_cons, List.map_nil, hs, hx, hr]
  exact hK _ _ (hk v' w' h2 h3 h5)

theorem wp_append_row {o : Oper} {a : Act} {w : World} {K : Act → World → Prop} {Q : Exit → Act → World → Prop} (s x : Operand) (t e : TypeId)
    (ho : o.op = .call { callee := .builtin .append, args := #[s, x], argTypes := #[t, t] }) (z : Value) (size bytes : Nat) (ht : Try.prog.underlying t = some (.slice e)) (hinfo : (Try.prog.info? e).map (fun i => (i.zero, i.size, i.bytes)) = some (some z, size, bytes))
    (hzs : z.cells.size = size) (hsz : 0 < size) (hb : bytes ≤ 1000) (v : Value) (n : Nat) (xs : List Value) (hs : a.eval s = v) (hown : w.ownsRow 0 e size v n xs) (src : Value) (m : Nat) (news : List Value) (hx : a.eval x = src) (hl : news.length = m * size) (hsrc : News w src m news)
    (h1 : ∀ u ∈ news, u.oneCell' = true) (hnm : n + m ≤ 1000000)
    (hk : ∀ v' w', w'.ownsRow 0 e size v' (n + m) (xs ++ news) → w.grownBy w' v.ownBlock → (v'.ownBlock = v.ownBlock ∨ v'.ownBlock = some w.heap.size) → K (a.put o.dst v') w') : o.wp Try.prog a w K Q := by
  obtain ⟨v', w', hr, h2, h3, h5⟩ := run_append_row w t o.type e z size bytes ht hinfo hzs hsz v n xs hown src m news hl hsrc h1 hnm hb
  unfold Oper.wp execOp
  simp only [ho, resolve, invoke, builtin, Sem.run_bind, Sem.run_pure, Result.andThen_ok, List.map_toArray, List.map_cons, List.map_nil, hs, hx, hr]
  exact hk v' w' h2 h3 h5
/-- The same, as a step of a region that draws its order. -/
theorem step_append_row {ops : Array Oper} {o : Oper} {a : Act} {w : World} {K : Act → World → Prop} {Q : Exit → Act → World → Prop} {E : Prop} (hgd : o.guard = none) (s x : Operand) (t e : TypeId)
    (ho : o.op = .call { callee := .builtin .append, args := #[s, x], argTypes := #[t, t] }) (z : Value) (size bytes : Nat) (ht : Try.prog.underlying t = some (.slice e)) (hinfo : (Try.prog.info? e).map (fun i => (i.zero, i.size, i.bytes)) = some (some z, size, bytes))
    (hzs : z.cells.size = size) (hsz : 0 < size) (hb : bytes ≤ 1000) (v : Value) (n : Nat) (xs : List Value) (hs : a.eval s = v) (hown : w.ownsRow 0 e size v n xs) (src : Value) (m : Nat) (news : List Value) (hx : a.eval x = src) (hl : news.length = m * size) (hsrc : News w src m news)
    (h1 : ∀ u ∈ news, u.oneCell' = true) (hnm : n + m ≤ 1000000)
    (hk : ∀ v' w', w'.ownsRow 0 e size v' (n + m) (xs ++ news) → w.grownBy w' v.ownBlock → (v'.ownBlock = v.ownBlock ∨ v'.ownBlock = some w.heap.size) → K (a.put o.dst v') w') :
    if Region.wanted o (yielded ops a.tmps) = true then Oper.wp Try.prog o a w K Q else E := by
  have hw : Region.wanted o (yielded ops a.tmps) = true := by simp [Region.wanted, hgd]
  rw [if_pos hw]
  exact wp_append_row s x t e ho z size bytes ht hinfo hzs hsz hb v n xs hs hown src m news hx hl hsrc h1 hnm hk
/-- A row that lies alone in a new block. -/
theorem news_new (w : World) (cs : Array Value) (t : TypeId) (m c : Nat) : News (w.alloc (.cells cs t)) (.slice (some ⟨w.heap.size, 0, none⟩) m c) m cs.toList :=
  .inr ⟨_, c, rfl, fun j u hu => by rw [add_lit0, World.cell?_alloc_new]; simpa using hu⟩
theorem News.keep {w w' : World} {v : Value} {m : Nat} {news : List Value} (h : News w v m news) (hc : ∀ a c, v = .slice (some a) m c → ∀ j u, news[j]? = some u → w.cell? (a.add j) = some u → w'.cell? (a.add j) = some u) : News w' v m news := by
  rcases h with h | ⟨a, c, rfl, h⟩
  · exact .inl h
  · exact .inr ⟨a, c, rfl, fun j u hu => hc a c rfl j u hu (h j u hu)⟩

theorem owns_drew {w : World} {base : Nat} {e : TypeId} {size : Nat} {v : Value} {n : Nat} {xs : List Value} (h : w.ownsRow base e size v n xs) : w.drew.ownsRow base e size v n xs := h
theorem news_drew {w : World} {v : Value} {m : Nat} {news : List Value} (h : News w v m news) : News w.drew v m news := h
theorem grown_drew {w w' : World} {row : Option Nat} (h : w.drew.grownBy w' row) : w.grownBy w' row := ⟨h.os, h.tape, h.output, h.size, h.block⟩

theorem owns_slice {w : World} {base : Nat} {e : TypeId} {size : Nat} {v : Value} {n : Nat} {xs : List Value} (h : w.ownsRow base e size v n xs) : ∃ A c, v = .slice A n c := by
  rcases h.2 with ⟨h1, h2⟩ | ⟨g, cap, cur, h1, _⟩
  · exact ⟨none, 0, by rw [h1, h2]⟩
  · exact ⟨_, _, h1⟩

/-- What the code owns, cut short. -/
theorem owns_cut {w : World} {base : Nat} {e : TypeId} {size g n cap m : Nat} {xs : List Value} (h : w.ownsRow base e size (.slice (some ⟨g, 0, none⟩) n cap) n xs) (hm : m ≤ n) : w.ownsRow base e size (.slice (some ⟨g, 0, none⟩) m cap) m (xs.take (m * size)) := by
  have hle : m * size ≤ n * size := Nat.mul_le_mul_right size hm
  refine ⟨by rw [List.length_take, h.1]; omega, ?_⟩
  rcases h.2 with ⟨h, _⟩ | ⟨g', cap', cur, he, h1, h2, h3, h4, h5, h6⟩
  · cases h
  · simp only [Value.slice.injEq, Option.some.injEq, Addr.mk.injEq] at he
    obtain ⟨⟨rfl, _⟩, _, rfl⟩ := he
    refine .inr ⟨g, cap, cur, rfl, h1, h2, by omega, h4, h5, ?_⟩
    rw [← h6, List.take_take, Nat.min_eq_left hle]
theorem owns_keep {K : Nat → Prop} {w w' : World} {base : Nat} {e : TypeId} {size : Nat} {v : Value} {n : Nat} {xs : List Value} (h : w.ownsRow base e size v n xs) (hk : Keeps K w w') (hv : ∀ g, v.ownBlock = some g → K g) : w'.ownsRow base e size v n xs := by
  obtain ⟨h1, h2⟩ := h
  refine ⟨h1, ?_⟩
  rcases h2 with h2 | ⟨g, cap, cur, rfl, r2, r3, r4⟩
  · exact .inl h2
  · exact .inr ⟨g, cap, cur, rfl, r2, (hk.block g (hv g rfl)).trans r3, r4⟩
end Go.Proofs.Ytlgfappnlnhddaa
