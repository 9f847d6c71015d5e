/-
  Rows of words in memory, by a function; what copies of them are.
-/
import Derived.Test.YtlgfappnlnhddaaKrow
import Derived.Laws.CopyOwn
import Derived.Laws.CopyRow
import Derived.Laws.MakeOwn
namespace Go.Proofs.Ytlgfappnlnhddaa
open Go.RowKit
variable {w w' : World}

def wrd (x : Nat) : Value := .int .u64 (x : Int)
/-- Blocks that came between two worlds. -/
def Nw (w w' : World) (k : Nat) : Prop := w.heap.size ≤ k ∧ k < w'.heap.size
/-- The slice v holds n words, f of each place; its cells lie in blocks of K. -/
def WordsF (K : Nat → Prop) (w : World) (v : Value) (n : Nat) (f : Nat → Nat) : Prop :=
  ∃ A c, v = .slice A n c ∧ n * 8 ≤ 140737488355328 ∧ (∀ j, j < n → f j < 18446744073709551616) ∧ (0 < n → ∃ g o : Nat, A = some ⟨g, o, none⟩ ∧ K g ∧ ∀ j, j < n → w.cell? ⟨g, o + j, none⟩ = some (wrd (f j)))
theorem WordsF.keep {K K' : Nat → Prop} {v : Value} {n : Nat} {f : Nat → Nat} (h : WordsF K w v n f) (hk : Keeps K w w') (hm : ∀ k, K k → K' k) : WordsF K' w' v n f := by
  obtain ⟨A, c, rfl, h1, h2, h3⟩ := h
  refine ⟨A, c, rfl, h1, h2, fun hl => ?_⟩
  obtain ⟨g, o, rfl, h4, h5⟩ := h3 hl
  exact ⟨g, o, rfl, hm g h4, fun j hj => (hk.cell (p := ⟨g, o + j, none⟩) h4).trans (h5 j hj)⟩
theorem WordsF.mono {K K' : Nat → Prop} {v : Value} {n : Nat} {f : Nat → Nat} (h : WordsF K w v n f) (hm : ∀ k, K k → K' k) : WordsF K' w v n f := h.keep (Keeps.refl K w) hm
theorem WordsF.nil (K : Nat → Prop) (w : World) (f : Nat → Nat) : WordsF K w (.slice none 0 0) 0 f := ⟨none, 0, rfl, by omega, fun j h => by omega, fun h => by omega⟩
theorem WordsF.form {K : Nat → Prop} {v : Value} {n : Nat} {f : Nat → Nat} (h : WordsF K w v n f) : ∃ A c, v = .slice A n c := by
  obtain ⟨A, c, rfl, _⟩ := h
  exact ⟨A, c, rfl⟩
theorem WordsF.fits {K : Nat → Prop} {v : Value} {n : Nat} {f : Nat → Nat} (h : WordsF K w v n f) : n * 8 ≤ 140737488355328 := by
  obtain ⟨A, c, _, h, _⟩ := h
  exact h
theorem WordsF.lt {K : Nat → Prop} {v : Value} {n : Nat} {f : Nat → Nat} (h : WordsF K w v n f) : ∀ j, j < n → f j < 18446744073709551616 := by
  obtain ⟨A, c, _, _, h, _⟩ := h
  exact h
theorem WordsF.some_ {K : Nat → Prop} {v : Value} {n : Nat} {f : Nat → Nat} (h : WordsF K w v n f) (hn : 0 < n) : ∃ g o c : Nat, v = .slice (some ⟨g, o, none⟩) n c ∧ K g ∧ ∀ j, j < n → w.cell? ⟨g, o + j, none⟩ = some (wrd (f j)) := by
  obtain ⟨A, c, rfl, _, _, h⟩ := h
  obtain ⟨g, o, rfl, h4, h5⟩ := h hn
  exact ⟨g, o, c, rfl, h4, h5⟩
theorem WordsF.at_ {K : Nat → Prop} {A : Option Addr} {m c n : Nat} {f : Nat → Nat} (h : WordsF K w (.slice A m c) n f) (hn : 0 < n) : ∃ g o : Nat, A = some ⟨g, o, none⟩ ∧ K g ∧ ∀ j, j < n → w.cell? ⟨g, o + j, none⟩ = some (wrd (f j)) := by
  obtain ⟨A', c', he, _, _, h⟩ := h
  simp only [Value.slice.injEq] at he
  obtain ⟨rfl, rfl, rfl⟩ := he
  exact h hn
theorem WordsF.congr {K : Nat → Prop} {v : Value} {n : Nat} {f f' : Nat → Nat} (h : WordsF K w v n f) (hf : ∀ j, j < n → f j = f' j) : WordsF K w v n f' := by
  obtain ⟨A, c, rfl, h1, h2, h3⟩ := h
  refine ⟨A, c, rfl, h1, fun j hj => by rw [← hf j hj]; exact h2 j hj, fun hl => ?_⟩
  obtain ⟨g, o, rfl, h4, h5⟩ := h3 hl
  exact ⟨g, o, rfl, h4, fun j hj => by rw [← hf j hj]; exact h5 j hj⟩

/-! ### A block of words -/
def rowF (n : Nat) (f : Nat → Nat) : Array Value := ((List.range n).map fun j => wrd (f j)).toArray
/-- Block g holds n words. -/
def FRow (w : World) (g n : Nat) (f : Nat → Nat) : Prop := w.heap[g]? = some (.cells (rowF n f) 27 (0, 0))
def upd (f : Nat → Nat) (i x : Nat) : Nat → Nat := fun j => if j = i then x else f j
theorem rowF_at (n : Nat) (f : Nat → Nat) (j : Nat) (h : j < n) : (rowF n f)[j]? = some (wrd (f j)) := by simp [rowF, h]
theorem rowF_set (n : Nat) (f : Nat → Nat) (i x : Nat) : (rowF n f).setIfInBounds i (wrd x) = rowF n (upd f i x) := by
  apply Array.ext'
  simp only [rowF, Array.toList_setIfInBounds]
  apply List.ext_getElem?
  intro j
  rw [List.getElem?_set]
  by_cases h : i = j
  · subst h
    by_cases hi : i < n
    · simp [hi, upd]
    · simp [hi]
  · simp only [h, if_false, List.getElem?_map]
    by_cases hj : j < n
    · simp [hj, upd, Ne.symm h]
    · simp [hj]
theorem rowF_congr {n : Nat} {f f' : Nat → Nat} (h : ∀ j, j < n → f j = f' j) : rowF n f = rowF n f' := by
  unfold rowF
  congr 1
  apply List.map_congr_left
  intro j hj
  rw [h j (by simpa using hj)]
theorem FRow.cell {g n : Nat} {f : Nat → Nat} (h : FRow w g n f) (j : Nat) (hj : j < n) : w.cell? ⟨g, j, none⟩ = some (wrd (f j)) := by
  rw [cell_of_row w g j _ _ _ h, rowF_at n f j hj]
theorem FRow.frozen {g n : Nat} {f : Nat → Nat} (h : FRow w g n f) (j : Nat) : w.frozen? ⟨g, j, none⟩ = false := frozen_of_row w g j _ _ h
theorem FRow.lt {g n : Nat} {f : Nat → Nat} (h : FRow w g n f) : g < w.heap.size := (Array.getElem?_eq_some_iff.1 h).1
theorem FRow.next {g n : Nat} {f : Nat → Nat} {K : Nat → Prop} (h : FRow w g n f) (hk : Keeps K w w') (hg : K g) : FRow w' g n f := (hk.block g hg).trans h
theorem FRow.set {g n : Nat} {f : Nat → Nat} (h : FRow w g n f) (i x : Nat) : FRow (w.setCell ⟨g, i, none⟩ (wrd x)) g n (upd f i x) := by
  unfold FRow
  rw [heap_setCell_same w g i _ _ _ h, rowF_set]
theorem FRow.words {g n c : Nat} {f : Nat → Nat} {K : Nat → Prop} (h : FRow w g n f) (hK : K g) (hn : n * 8 ≤ 140737488355328) (hf : ∀ j, j < n → f j < 18446744073709551616) : WordsF K w (.slice (some ⟨g, 0, none⟩) n c) n f :=
  ⟨_, c, rfl, hn, hf, fun _ => ⟨g, 0, rfl, hK, fun j hj => by rw [Nat.zero_add]; exact h.cell j hj⟩⟩
theorem Try.info_u64 : (Try.prog.info? 27).map (fun i => (i.zero, i.size, i.bytes)) = some (some (.int .u64 0), 1, 8) := by kernel_rfl
theorem made_words (n : Nat) : madeCells (Value.int .u64 0).cells (n * 1) = rowF n (fun _ => 0) := by
  apply Array.ext'
  simp [madeCells, rowF, wrd, Value.cells]
  intro a ha
  rw [Nat.mod_one]; rfl
theorem run_make_words (n : Nat) (hn : n * 8 ≤ 140737488355328) (w : World) : (Instr.makeSlice 24 (.int .i64 (n : Int)) (.int .i64 (n : Int))).run Try.prog w = .ok (.slice (some ⟨w.heap.size, 0, none⟩) n n) (w.alloc (.cells (rowF n (fun _ => 0)) 27)) := by
  obtain ⟨i0, hi, hz0, hz1, hz2⟩ := info_parts Try.info_u64
  have h := run_make (P := Try.prog) w 24 27 i0 _ Try.underlying24 hi hz0 .i64 .i64 n n (by omega) (by omega) (by rw [hz2]; omega) (by omega)
  rw [hz1, Int.toNat_natCast, made_words] at h
  exact h
theorem frow_new (n : Nat) (f : Nat → Nat) (w : World) : FRow (w.alloc (.cells (rowF n f) 27)) w.heap.size n f := heap_alloc_new _ _

/-! ### copy of words, from the row's beginning -/
def over (f ys : Nat → Nat) (m : Nat) : Nat → Nat := fun j => if j < m then ys j else f j
theorem run_copy_words (g n c m c2 : Nat) (A : Option Addr) (ty : TypeId) (f ys : Nat → Nat) {K : Nat → Prop} (hcur : FRow w g n f) (hsrc : WordsF K w (.slice A m c2) m ys) :
    ∃ w', (Builtin.copy_ #[24, 24] ty #[.slice (some ⟨g, 0, none⟩) n c, .slice A m c2]).run Try.prog w = .ok (goInt (Nat.min m n)) w' ∧ Keeps (fun k => k ≠ g) w w' ∧ FRow w' g n (over f ys (Nat.min m n)) := by
  have hsz : (Try.prog.info? 27).map (·.size) = some 1 := by kernel_rfl
  rcases Nat.eq_zero_or_pos (Nat.min m n) with h0 | h0
  · have hr := run_copy_none (P := Try.prog) w 24 24 ty 27 (some ⟨g, 0, none⟩) A n c m c2 Try.underlying24 hsz h0
    refine ⟨w, by rw [hr, h0]; rfl, Keeps.refl _ _, ?_⟩
    rw [h0]
    have e : over f ys 0 = f := by funext j; simp [over]
    rw [e]; exact hcur
  · have hmm : Nat.min m n = min m n := rfl
    obtain ⟨ga, oa, rfl, _, hc⟩ := hsrc.at_ (by omega)
    obtain ⟨q, hq⟩ : ∃ q, Nat.min m n = q := ⟨_, rfl⟩
    rw [hq] at h0 ⊢
    have hqm : q ≤ m := by omega
    have hqn : q ≤ n := by omega
    have hl : ((List.range q).map fun j => wrd (ys j)).length = Nat.min m n := by simp [hq]
    have hr := run_copy_row (P := Try.prog) w 24 24 ty 27 g 0 n c ⟨ga, oa, none⟩ m c2 (rowF n f) 27 ((List.range q).map fun j => wrd (ys j)) Try.underlying24 hsz hcur hl (fun j v hv => by
      have hj : j < q := by simpa using (List.getElem?_eq_some_iff.1 hv).1
      have hv2 : wrd (ys j) = v := by simpa [hj] using hv
      rw [Addr.add_lit, hc j (by omega), hv2]) (by rw [List.length_map, List.length_range]; simp [rowF]; omega) (fun v hv => by
      obtain ⟨x, _, rfl⟩ := List.mem_map.1 hv; rfl)
    rw [hl, hq] at hr
    refine ⟨_, hr, ⟨rfl, rfl, rfl, by simp, fun k hk => setRow_other w g k _ hk⟩, ?_⟩
    unfold FRow
    rw [setRow_heap w g _ _ _ _ hcur]
    congr 2
    apply Array.ext'
    apply List.ext_getElem?
    intro j
    simp only [rowF, List.take_zero, List.nil_append, Nat.zero_add]
    by_cases hj : j < q
    · rw [List.getElem?_append_left (by simpa using hj)]
      simp [hj, show j < n by omega, over]
    · rw [List.getElem?_append_right (by simpa using hj), List.length_map, List.length_range, List.getElem?_drop, show q + (j - q) = j by omega]
      by_cases hjn : j < n
      · simp [hjn, over, hj]
      · simp [hjn]
theorem wpList_copy_words {ops : Array Oper} {rest : List Oper} {o : Oper} {a : Act} {Q : Exit → Act → World → Prop} (hgd : o.guard = none) (s x : Operand)
    (ho : o.op = .call { callee := .builtin .copy, args := #[s, x], argTypes := #[24, 24] })
    (g n c m c2 : Nat) (A : Option Addr) (hs : a.eval s = .slice (some ⟨g, 0, none⟩) n c) (hx : a.eval x = .slice A m c2) (f ys : Nat → Nat) {K : Nat → Prop} (hcur : FRow w g n f) (hsrc : WordsF K w (.slice A m c2) m ys)
    (h : ∀ w', Keeps (fun k => k ≠ g) w w' → FRow w' g n (over f ys (Nat.min m n)) → wpList Try.prog ops Q rest (a.put o.dst (goInt (Nat.min m n))) w') : wpList Try.prog ops Q (o :: rest) a w :=
  wpList_plain hgd fun _ hK => by
    obtain ⟨w', hr, h1, h2⟩ := run_copy_words g n c m c2 A o.type f ys hcur hsrc
    unfold Oper.wp execOp
    simp only [ho, resolve, invoke, builtin, Sem.run_bind, Sem.run_pure, Result.andThen_ok, List.map_toArray, List.map_cons, List.map_nil, hs, hx, hr]
    exact hK _ _ (h w' h1 h2)
end Go.Proofs.Ytlgfappnlnhddaa
