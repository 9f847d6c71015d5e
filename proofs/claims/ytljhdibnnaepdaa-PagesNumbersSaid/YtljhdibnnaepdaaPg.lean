/-
  A memory of pages: its box and its bytes; and what a call leaves of all other blocks.
-/
import Derived.Test.YtljhdibnnaepdaaLrow
import Derived.Laws.CopyOwn
import Derived.Lib.AppendZerosOnto
import Derived.Laws.MakeOwn
namespace Go.Proofs.Ytljhdibnnaepdaa
open Go.RowKit

/-! ### All blocks but some -/
/-- All that was there is as it was, but for the blocks X. -/
structure But (X : List Nat) (w w' : World) : Prop where
  os : w'.os = w.os
  tape : w'.tape = w.tape
  output : w'.output = w.output
  size : w.heap.size ≤ w'.heap.size
  block : ∀ k, k < w.heap.size → k ∉ X → w'.heap[k]? = w.heap[k]?
theorem But.refl (X : List Nat) (w : World) : But X w w := ⟨rfl, rfl, rfl, Nat.le_refl _, fun _ _ _ => rfl⟩
theorem But.trans {X : List Nat} {a b c : World} (h : But X a b) (k : But X b c) : But X a c :=
  ⟨k.os.trans h.os, k.tape.trans h.tape, k.output.trans h.output, Nat.le_trans h.size k.size, fun i hi hx => (k.block i (Nat.lt_of_lt_of_le hi h.size) hx).trans (h.block i hi hx)⟩
theorem But.mono {X Y : List Nat} {a b : World} (h : But X a b) (hs : ∀ k ∈ X, k ∈ Y ∨ a.heap.size ≤ k) : But Y a b :=
  ⟨h.os, h.tape, h.output, h.size, fun i hi hx => h.block i hi fun hm => by
    rcases hs i hm with h1 | h1
    · exact hx h1
    · omega⟩
theorem But.below {X : List Nat} {a b : World} {B : Nat} (h : But X a b) (hB : ∀ k ∈ X, B ≤ k) (hle : B ≤ a.heap.size) : Below B a b :=
  ⟨h.os, h.tape, h.output, h.size, fun k hk => h.block k (by omega) fun hm => by have := hB k hm; omega⟩
theorem but_of {w w' : World} (h : Below w.heap.size w w') (X : List Nat) : But X w w' := ⟨h.os, h.tape, h.output, h.size, fun k hk _ => h.block k hk⟩
theorem But.alloc (X : List Nat) (w : World) (o : Obj) : But X w (w.alloc o) := but_of ((Below.refl _ _).alloc (Nat.le_refl _) o) X
theorem But.drew (X : List Nat) (w : World) : But X w w.drew := but_of (Below.refl w.heap.size w).drew X
theorem But.setRow {X : List Nat} (w : World) {g : Nat} (hg : g ∈ X) (cs : Array Value) : But X w (w.setRow g cs) :=
  ⟨rfl, rfl, rfl, by simp, fun k _ hx => setRow_other w g k cs (fun e => hx (e ▸ hg))⟩
theorem But.setCell {X : List Nat} (w : World) {a : Addr} (hg : a.block ∈ X) (u : Value) : But X w (w.setCell a u) :=
  ⟨rfl, rfl, rfl, by simp [World.setCell], fun k _ hx => Below.heap_setCell w a u k (fun e => hx (e ▸ hg))⟩
theorem But.cell {X : List Nat} {w w' : World} (h : But X w w') {p : Addr} (hp : p.block < w.heap.size) (hx : p.block ∉ X) : w'.cell? p = w.cell? p := World.cell?_of_block (w := w) (h.block p.block hp hx)
theorem But.bytes {X : List Nat} {w w' : World} (h : But X w w') {A : Option Addr} {l : List Nat} (hb : Bytes w A l) (hx : ∀ g o, A = some ⟨g, o, none⟩ → g ∉ X) : Bytes w' A l :=
  ⟨hb.1, fun hl => by
    obtain ⟨g, o, rfl, r2, r3⟩ := hb.2 hl
    exact ⟨g, o, rfl, Nat.lt_of_lt_of_le r2 h.size, fun j hj => (h.cell (p := ⟨g, o + j, none⟩) r2 (hx g o rfl)).trans (r3 j hj)⟩⟩

/-! ### A memory -/
/-- The box at p, of type T, holds a memory whose bytes lie in block B and are l; it may have mx pages. -/
structure Pg (T : TypeId) (p B : Nat) (l : List Nat) (mx : Nat) (w : World) : Prop where
  ex : ∃ r : List Value, w.heap[p]? = some (.cells #[.slice (some ⟨B, 0, none⟩) l.length (l.length + r.length), .int .i64 (mx : Int)] T (0, 0)) ∧ w.heap[B]? = some (.cells (l.map byt ++ r).toArray 5 (0, 0)) ∧ l.length + r.length ≤ maxLen
  ne : p ≠ B
  byte : ∀ x ∈ l, x < 256
  most : mx ≤ 512
  len : ∃ k, l.length = 1024 * k ∧ k ≤ mx
variable {T : TypeId} {p B : Nat} {l : List Nat} {mx : Nat} {w w' : World}
theorem Pg.fits (h : Pg T p B l mx w) : l.length ≤ 524288 := by
  obtain ⟨k, h1, h2⟩ := h.len
  have := h.most
  omega
theorem Pg.ltP (h : Pg T p B l mx w) : p < w.heap.size := by obtain ⟨r, h1, _⟩ := h.ex; exact (Array.getElem?_eq_some_iff.1 h1).1
theorem Pg.ltB (h : Pg T p B l mx w) : B < w.heap.size := by obtain ⟨r, _, h1, _⟩ := h.ex; exact (Array.getElem?_eq_some_iff.1 h1).1
theorem Pg.next {X : List Nat} (h : Pg T p B l mx w) (hb : But X w w') (hp : p ∉ X) (hB : B ∉ X) : Pg T p B l mx w' := by
  obtain ⟨r, h1, h2, h3⟩ := h.ex
  exact ⟨⟨r, (hb.block p h.ltP hp).trans h1, (hb.block B h.ltB hB).trans h2, h3⟩, h.ne, h.byte, h.most, h.len⟩
theorem Pg.cell0 (h : Pg T p B l mx w) : ∃ c, l.length ≤ c ∧ w.cell? ⟨p, 0, none⟩ = some (.slice (some ⟨B, 0, none⟩) l.length c) := by
  obtain ⟨r, h1, _⟩ := h.ex
  exact ⟨_, Nat.le_add_right _ _, by rw [cell_of_row w p 0 _ _ _ h1]; rfl⟩
theorem Pg.cell1 (h : Pg T p B l mx w) : w.cell? ⟨p, 1, none⟩ = some (.int .i64 (mx : Int)) := by
  obtain ⟨r, h1, _⟩ := h.ex
  rw [cell_of_row w p 1 _ _ _ h1]; rfl
theorem Pg.frozen (h : Pg T p B l mx w) (j : Nat) : w.frozen? ⟨p, j, none⟩ = false := by
  obtain ⟨r, h1, _⟩ := h.ex
  simp [World.frozen?, h1]
theorem Pg.byte_at (h : Pg T p B l mx w) (j : Nat) (hj : j < l.length) : w.cell? ⟨B, j, none⟩ = some (.int .u8 (l.getD j 0 : Nat)) := by
  obtain ⟨r, _, h1, _⟩ := h.ex
  rw [cell_of_row w B j _ _ _ h1]
  simp [hj, byt, List.getElem?_append]
theorem Pg.mark (h : Pg T p B l mx w) (j : Nat) : w.frozen? ⟨B, j, none⟩ = false := by
  obtain ⟨r, _, h1, _⟩ := h.ex
  simp [World.frozen?, h1]
theorem Pg.bytes (h : Pg T p B l mx w) : Bytes w (some ⟨B, 0, none⟩) l :=
  ⟨h.byte, fun _ => ⟨B, 0, rfl, h.ltB, fun j hj => by rw [Nat.zero_add]; exact h.byte_at j hj⟩⟩
/-- A part of its bytes reads as it should. -/
theorem Pg.part (h : Pg T p B l mx w) (q n : Nat) (hq : q + n ≤ l.length) (A : Option Addr) (hA : 0 < n → A = some ⟨B, q, none⟩) : Bytes w A ((l.drop q).take n) :=
  h.bytes.part q n hq A fun g o h0 he => by
    simp only [Option.some.injEq, Addr.mk.injEq] at he
    obtain ⟨rfl, rfl, _⟩ := he
    rw [Nat.zero_add]; exact hA h0
theorem set_byte (l : List Nat) (r : List Value) (j x : Nat) (hj : j < l.length) : (l.map byt ++ r).set j (byt x) = (l.set j x).map byt ++ r := by
  rw [List.set_append_left _ _ (by simpa using hj), List.map_set]
/-- One byte is written. -/
theorem Pg.set (h : Pg T p B l mx w) (j x : Nat) (hj : j < l.length) (hx : x < 256) : Pg T p B (l.set j x) mx (w.setCell ⟨B, j, none⟩ (.int .u8 (x : Int))) := by
  obtain ⟨r, h1, h2, h3⟩ := h.ex
  refine ⟨⟨r, ?_, ?_, by simpa using h3⟩, h.ne, fun y hy => ?_, h.most, by simpa using h.len⟩
  · rw [Below.heap_setCell _ _ _ _ h.ne, List.length_set]; exact h1
  · rw [← set_byte l r j x hj]
    simp [World.setCell, Array.getElem?_modify, h2, byt]
  · rcases List.mem_or_eq_of_mem_set hy with h1 | h1
    · exact h.byte y h1
    · omega
/-- Some bytes are laid over it. -/
theorem splice_byte (l : List Nat) (r : List Value) (q : Nat) (ys : List Nat) (hq : q + ys.length ≤ l.length) : splice (l.map byt ++ r) q (ys.map byt) = (splice l q ys).map byt ++ r := by
  unfold splice
  rw [List.take_append_of_le_length (by simp; omega), List.drop_append_of_le_length (by simp; omega)]
  simp [List.map_take, List.map_drop]
theorem splice_mem {l ys : List Nat} {q : Nat} {x : Nat} (h : x ∈ splice l q ys) : x ∈ l ∨ x ∈ ys := by
  unfold splice at h
  rcases List.mem_append.1 h with h | h
  · exact .inl (List.mem_of_mem_take h)
  · rcases List.mem_append.1 h with h | h
    · exact .inr h
    · exact .inl (List.mem_of_mem_drop h)
theorem Pg.spliced (h : Pg T p B l mx w) (q : Nat) (ys : List Nat) (hq : q + ys.length ≤ l.length) (hy : ∀ x ∈ ys, x < 256) (hw : But [B] w w')
    (hB : ∀ cur : List Value, w.heap[B]? = some (.cells cur.toArray 5 (0, 0)) → w'.heap[B]? = some (.cells (splice cur q (ys.map byt)).toArray 5 (0, 0))) : Pg T p B (splice l q ys) mx w' := by
  obtain ⟨r, h1, h2, h3⟩ := h.ex
  have hl := length_splice l q ys hq
  refine ⟨⟨r, ?_, ?_, by rw [hl]; exact h3⟩, h.ne, fun x hx => ?_, h.most, by rw [hl]; exact h.len⟩
  · rw [hl]; exact (hw.block p h.ltP (by simpa using h.ne)).trans h1
  · rw [hB _ h2, splice_byte l r q ys hq]
  · rcases splice_mem hx with hx | hx
    · exact h.byte x hx
    · exact hy x hx

/-! ### copy of bytes -/
theorem run_copy_bytes (g q n c m c2 : Nat) (dp A : Option Addr) (ty : TypeId) (cur : List Value) (ys : List Nat) (hcur : w.heap[g]? = some (.cells cur.toArray 5 (0, 0))) (hm : ys.length = m) (hsrc : Bytes w A ys) (hd : 0 < Nat.min m n → dp = some ⟨g, q, none⟩) (hq : q + Nat.min m n ≤ cur.length) :
    ∃ w', (Builtin.copy_ #[27, 27] ty #[.slice dp n c, .slice A m c2]).run Try.prog w = .ok (goInt (Nat.min m n)) w' ∧ But [g] w w' ∧ w'.heap[g]? = some (.cells (splice cur q ((ys.take n).map byt)).toArray 5 (0, 0)) := by
  have hsz : (Try.prog.info? 5).map (·.size) = some 1 := by kernel_rfl
  rcases Nat.eq_zero_or_pos (Nat.min m n) with h0 | h0
  · have hr := run_copy_none (P := Try.prog) w 27 27 ty 5 dp A n c m c2 Try.underlying27 hsz h0
    refine ⟨w, by rw [hr, h0]; rfl, But.refl _ _, ?_⟩
    have e : ys.take n = [] := List.eq_nil_of_length_eq_zero (by rw [List.length_take, Nat.min_comm, hm]; exact h0)
    rw [e, hcur]
    simp [splice]
  · have hmm : Nat.min m n = min m n := rfl
    obtain ⟨ga, oa, rfl, hlt, hc⟩ := hsrc.2 (by omega)
    obtain rfl := hd h0
    have hl : ((ys.take n).map byt).length = Nat.min m n := by rw [List.length_map, List.length_take, hm]; omega
    have hr := run_copy_row (P := Try.prog) w 27 27 ty 5 g q n c ⟨ga, oa, none⟩ m c2 cur.toArray 5 ((ys.take n).map byt) Try.underlying27 hsz hcur hl (fun j v hv => by
      obtain ⟨x, hx, rfl⟩ : ∃ x, (ys.take n)[j]? = some x ∧ byt x = v := by rw [List.getElem?_map] at hv; exact Option.map_eq_some_iff.1 hv
      have hj : j < (ys.take n).length := (List.getElem?_eq_some_iff.1 hx).1
      have hj2 : j < ys.length := by rw [List.length_take] at hj; omega
      have hx2 : ys[j]? = some x := by rw [List.getElem?_take] at hx; split at hx <;> simp_all
      rw [Addr.add_lit, hc j hj2, List.getD_eq_getElem?_getD, hx2]; rfl) (by rw [hl]; simpa using hq) (bytes_one _)
    rw [hl] at hr
    refine ⟨_, hr, But.setRow w (by simp) _, ?_⟩
    rw [setRow_heap w g _ _ _ _ hcur]
    have e : (ys.take n).length = Nat.min m n := by rw [List.length_map] at hl; exact hl
    simp only [splice, List.length_map, e, List.append_assoc]
theorem wpList_copy_bytes {ops : Array Oper} {rest : List Oper} {o : Oper} {a : Act} {Q : Exit → Act → World → Prop} (hgd : o.guard = none) (s x : Operand)
    (ho : o.op = .call { callee := .builtin .copy, args := #[s, x], argTypes := #[27, 27] })
    (g q n c m c2 : Nat) (dp A : Option Addr) (hs : a.eval s = .slice dp n c) (hx : a.eval x = .slice A m c2) (cur : List Value) (ys : List Nat) (hcur : w.heap[g]? = some (.cells cur.toArray 5 (0, 0))) (hm : ys.length = m) (hsrc : Bytes w A ys) (hd : 0 < Nat.min m n → dp = some ⟨g, q, none⟩) (hq : q + Nat.min m n ≤ cur.length)
    (h : ∀ w', But [g] w w' → Hid (w'.heap[g]? = some (.cells (splice cur q ((ys.take n).map byt)).toArray 5 (0, 0))) → wpList Try.prog ops Q rest (a.put o.dst (goInt (Nat.min m n))) w') : wpList Try.prog ops Q (o :: rest) a w :=
  wpList_plain hgd fun _ hK => by
    obtain ⟨w', hr, h1, h2⟩ := run_copy_bytes g q n c m c2 dp A o.type cur ys hcur hm hsrc hd hq
    unfold Oper.wp execOp
    simp only [ho, resolve, invoke, builtin, Sem.run_bind, Sem.run_pure, Result.andThen_ok, List.map_toArray, List.map_cons, List.map_nil, hs, hx, hr]
    exact hK _ _ (h w' h1 h2)
end Go.Proofs.Ytljhdibnnaepdaa
