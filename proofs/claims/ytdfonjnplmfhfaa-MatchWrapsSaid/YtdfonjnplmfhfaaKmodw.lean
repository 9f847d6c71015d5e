/-
  Module: its tape, its start.
-/
import Derived.Test.YtdfonjnplmfhfaaKmod
namespace Go.Proofs.Ytdfonjnplmfhfaa
open Go.RowKit

/-- Next upon the tape of the module's maker. -/
theorem mk_next {P : MP} {w : World} {x : MS} (h : Mk P w x) (n : Nat) (h0 : 0 < n) (hn : n ≤ 1073741824) :
    Calls Try.prog 8 #[.pointer (some ⟨P.T, 0, none⟩), .int .i64 (n : Int)] w fun e w' => ∃ r : Nat, r < n ∧ e = .returned (.int .i64 (r : Int)) ∧ ∃ a, Mk P w' { x with at_ := a } ∧ MStep P w x w' { x with at_ := a } :=
  (next_any (fun k => k < P.W.heap.size) P.T P.tv P.tl x.at_ n w h.hT (h.tape.keep (Keeps.below h.bel fun _ h => h) fun _ h => h) (fun hk => by have := h.new.2.1; omega) h.le h0 hn).mono fun _ _ ⟨r, a, he, hr, hk, ht⟩ =>
    ⟨r, hr, he, a, h.later ⟨ht.os, ht.tape, ht.output, by rw [ht.size]; exact Nat.le_refl _, fun k hk => ht.block k hk.2⟩ a hk ht.at_⟩
theorem Mk.cell {P : MP} {w : World} {x : MS} (h : Mk P w x) (o : Nat) : w.cell? ⟨P.M, o, none⟩ = (mcells x)[o]? := by simp [World.cell?, h.hM]
theorem Mk.frozen {P : MP} {w : World} {x : MS} (h : Mk P w x) (o : Nat) : w.frozen? ⟨P.M, o, none⟩ = false := by simp [World.frozen?, h.hM]
theorem Mk.drew {P : MP} {w : World} {x : MS} (h : Mk P w x) : Mk P w.drew x ∧ MStep P w x w.drew x := h.below ((Below.refl _ _).drew)
/-- What a push wants of the module's struct. -/
theorem Mk.pushf {P : MP} {w : World} {x : MS} (h : Mk P w x) (ob : Obj) (r : Option Nat) (hr : ∀ k, r = some k → own3 x k) (o : Nat) : (w.alloc ob).cell? ⟨P.M, o, none⟩ = (mcells x)[o]? ∧ ∀ w2, (w.alloc ob).grownBy w2 r → w2.cell? ⟨P.M, o, none⟩ = (mcells x)[o]? ∧ w2.frozen? ⟨P.M, o, none⟩ = false := by
  obtain ⟨l1, _, _⟩ := h.lts
  have hrM : r ≠ some P.M := fun e => by
    rcases hr _ e with e | e | e
    · exact (h.fp _ e).2.1 rfl
    · exact (h.mp _ e).2.1 rfl
    · exact (h.ep _ e).2.1 rfl
  refine ⟨by rw [World.cell?_alloc_lt _ _ _ (by exact l1)]; exact h.cell o, fun w2 hgr => ?_⟩
  have hb := (grown_keeps hgr).block P.M ⟨l1, hrM⟩
  exact ⟨(World.cell?_of_block (w := w) (a := ⟨P.M, o, none⟩) hb).trans (h.cell o), (World.frozen?_of_block (w := w) (a := ⟨P.M, o, none⟩) hb).trans (h.frozen o)⟩
def nil0 : Value := .slice none 0 0
def zeroM : Array Value := #[.slice none 0 0, .slice none 0 0, .slice none 0 0, .slice none 0 0, .slice none 0 0, .slice none 0 0, .slice none 0 0, .slice none 0 0]
/-- How the maker begins. -/
theorem mk_start (w : World) (tv : Value) (tl : List Int) (htl : IntsK (fun k => k < w.heap.size) w tv tl) (W1 W2 : World) (hW1 : W1 = (w.alloc (.cells zeroM 32)).alloc (.cells #[tv, .int .i64 0] 50)) (hW2 : W2 = (tyObjs W1.heap.size).foldl World.alloc W1) (x : MS)
    (hx : x = ⟨.slice (some ⟨W1.heap.size + 14, 0, none⟩) 9 9, .slice none 0 0, .slice none 0 0, .slice none 0 0, .slice none 0 0, .slice none 0 0, .slice none 0 0, 0, [], [], []⟩) (P : MP) (hP : P = ⟨w.alloc (.cells zeroM 32), W2.heap.size, w.heap.size + 1, tv, tl⟩) :
    Mk P (W2.alloc (.cells (mcells x) 32)) x ∧ TypesK (still P x (W2.alloc (.cells (mcells x) 32))) (W2.alloc (.cells (mcells x) 32)) x.m0 nineL := by
  have s0 : (w.alloc (.cells zeroM 32)).heap.size = w.heap.size + 1 := by simp
  have s1 : W1.heap.size = w.heap.size + 2 := by rw [hW1]; simp
  obtain ⟨_, hb2, s2⟩ := alloc_fold (tyObjs W1.heap.size) W1 0 _ rfl
  rw [← hW2] at hb2 s2
  have s2' : W2.heap.size = w.heap.size + 17 := by rw [s2, s1]; rfl
  have hb1 : Below (w.alloc (.cells zeroM 32)).heap.size (w.alloc (.cells zeroM 32)) W1 := by rw [hW1]; exact (Below.refl _ _).alloc (Nat.le_refl _) _
  have hb3 : Below W2.heap.size W2 (W2.alloc (.cells (mcells x) 32)) := (Below.refl _ _).alloc (Nat.le_refl _) _
  have hb13 : Below W1.heap.size W1 (W2.alloc (.cells (mcells x) 32)) := hb2.trans (hb3.mono (by omega))
  have s3 : (W2.alloc (.cells (mcells x) 32)).heap.size = w.heap.size + 18 := by simp [s2']
  have hT : W1.heap[w.heap.size + 1]? = some (.cells #[tv, .int .i64 0] 50 (0, 0)) := by
    have := heap_alloc_new (w.alloc (.cells zeroM 32)) (.cells #[tv, .int .i64 0] 50)
    rw [s0] at this
    rw [hW1]; exact this
  have hn : ∀ k, ¬ own3 x k := fun k => by rw [hx]; rintro (e | e | e) <;> cases e
  have htl' : IntsK (fun k => k < (w.alloc (.cells zeroM 32)).heap.size) (w.alloc (.cells zeroM 32)) tv tl := htl.keep (Keeps.alloc w (fun _ h => h) _) fun k hk => by rw [s0]; omega
  subst hP
  refine ⟨⟨hb1.trans (hb13.mono (by rw [s0]; omega)), heap_alloc_new W2 _, (hb13.block (w.heap.size + 1) (by omega)).trans (by rw [hx]; exact hT), by rw [hx]; exact Nat.zero_le _, htl', ⟨by show _ ≤ W2.heap.size; rw [s0]; omega, by show _ ≤ w.heap.size + 1; rw [s0]; exact Nat.le_refl _, by show W2.heap.size ≠ w.heap.size + 1; omega⟩,
    by rw [hx]; exact World.ownsRow_nil _ _ _ _, by rw [hx]; exact World.ownsRow_nil _ _ _ _, by rw [hx]; exact World.ownsRow_nil _ _ _ _, fun g hg => absurd (Or.inl hg) (hn g), fun g hg => absurd (Or.inr (Or.inl hg)) (hn g), fun g hg => absurd (Or.inr (Or.inr hg)) (hn g)⟩, ?_⟩
  have ht := nine_read W1
  rw [← hW2] at ht
  rw [show x.m0 = .slice (some ⟨W1.heap.size + 14, 0, none⟩) 9 9 by rw [hx]]
  exact ht.keep (Keeps.below hb3 fun k hk => hk.2) fun k hk => ⟨⟨by show (w.alloc _).heap.size ≤ k; rw [s0]; omega, by omega⟩, by show k ≠ W2.heap.size; omega, by show k ≠ w.heap.size + 1; omega, hn _⟩
/-- What turns still blocks alone leaves the module as it is. -/
theorem Mk.beside {P : MP} {w w' : World} {x : MS} (h : Mk P w x) (J : Nat → Prop) (hJ : ∀ k, J k → still P x w k) (hk : Keeps (fun k => k < w.heap.size ∧ ¬ J k) w w') : Mk P w' x := by
  obtain ⟨l1, l2, l3⟩ := h.lts
  have hb : Below P.W.heap.size P.W w' := ⟨hk.os.trans h.bel.os, hk.tape.trans h.bel.tape, hk.output.trans h.bel.output, Nat.le_trans h.bel.size hk.size, fun k hk' => (hk.block k ⟨Nat.lt_of_lt_of_le hk' h.bel.size, fun e => by have := (hJ k e).1.1; omega⟩).trans (h.bel.block k hk')⟩
  have hrow : ∀ g, own3 x g → g < w.heap.size ∧ ¬ J g := fun g hg => ⟨l3 g hg, fun e => (hJ g e).2.2.2 hg⟩
  exact ⟨hb, (hk.block _ ⟨l1, fun e => (hJ _ e).2.1 rfl⟩).trans h.hM, (hk.block _ ⟨l2, fun e => (hJ _ e).2.2.1 rfl⟩).trans h.hT, h.le, h.tape, h.new, owns_keep h.fo hk fun g hg => hrow g (.inl hg), owns_keep h.mo hk fun g hg => hrow g (.inr (.inl hg)), owns_keep h.eo hk fun g hg => hrow g (.inr (.inr hg)), h.fp, h.mp, h.ep⟩
/-- A function's struct beside the module, while its locals are made. -/
structure Inn (P : MP) (W : World) (z : MS) (ty : Int) (w : World) (a : Nat) (lv : Value) (ll : List Int) : Prop where
  md : Mk P w { z with at_ := a }
  st : MStep P W z w { z with at_ := a }
  f9 : w.heap[W.heap.size]? = some (.cells #[.int .i64 ty, lv, .slice none 0 0] 36 (0, 0))
  ow : w.ownsRow 0 3 1 lv ll.length (ll.map (Value.int .i64))
  lp : ∀ g, lv.ownBlock = some g → W.heap.size < g
  base : (∀ k, own3 z k → k < W.heap.size) ∧ P.M < W.heap.size ∧ P.T < W.heap.size ∧ P.W.heap.size ≤ W.heap.size
theorem Inn.stl {P : MP} {W w : World} {z : MS} {ty : Int} {a : Nat} {lv : Value} {ll : List Int} (h : Inn P W z ty w a lv ll) {k : Nat} (h1 : W.heap.size ≤ k) (h2 : k < w.heap.size) (a' : Nat) : still P { z with at_ := a' } w k := by
  obtain ⟨b1, b2, b3, b4⟩ := h.base
  exact ⟨⟨by omega, h2⟩, by omega, by omega, fun e => by have := b1 k e; omega⟩
theorem Inn.f9lt {P : MP} {W w : World} {z : MS} {ty : Int} {a : Nat} {lv : Value} {ll : List Int} (h : Inn P W z ty w a lv ll) : W.heap.size < w.heap.size := (Array.getElem?_eq_some_iff.1 h.f9).1
/-- Next goes by. -/
theorem Inn.next {P : MP} {W w w' : World} {z : MS} {ty : Int} {a a' : Nat} {lv : Value} {ll : List Int} (h : Inn P W z ty w a lv ll) (hm : Mk P w' { z with at_ := a' }) (hs : MStep P w { z with at_ := a } w' { z with at_ := a' }) : Inn P W z ty w' a' lv ll :=
  ⟨hm, h.st.trans hs, (hs.keeps.block _ (h.stl (Nat.le_refl _) h.f9lt a)).trans h.f9, owns_keep h.ow hs.keeps fun g hg => h.stl (Nat.le_of_lt (h.lp g hg)) (h.ow.lt g hg).2 a, h.lp, h.base⟩
theorem Inn.below {P : MP} {W w w' : World} {z : MS} {ty : Int} {a : Nat} {lv : Value} {ll : List Int} (h : Inn P W z ty w a lv ll) (hb : Below w.heap.size w w') : Inn P W z ty w' a lv ll := by
  obtain ⟨h1, h2⟩ := h.md.below hb
  exact h.next h1 h2
theorem Inn.cell1 {P : MP} {W w : World} {z : MS} {ty : Int} {a : Nat} {lv : Value} {ll : List Int} (h : Inn P W z ty w a lv ll) : w.cell? ⟨W.heap.size, 1, none⟩ = some lv ∧ w.frozen? ⟨W.heap.size, 1, none⟩ = false := by simp [World.cell?, World.frozen?, h.f9]
theorem Inn.pushf {P : MP} {W w : World} {z : MS} {ty : Int} {a : Nat} {lv : Value} {ll : List Int} (h : Inn P W z ty w a lv ll) {w0 w1 : World} (hb0 : Below w.heap.size w w0) {ob : Obj} (hg : (w0.alloc ob).grownBy w1 lv.ownBlock) : w1.cell? ⟨W.heap.size, 1, none⟩ = some lv ∧ w1.frozen? ⟨W.heap.size, 1, none⟩ = false := by
  have hb := (grown_keeps hg).block W.heap.size ⟨Nat.lt_of_lt_of_le h.f9lt hb0.size, fun e => by have := h.lp _ e; omega⟩
  have h9 := (h.below hb0).cell1
  exact ⟨(World.cell?_of_block (w := w0) (a := ⟨W.heap.size, 1, none⟩) hb).trans h9.1, (World.frozen?_of_block (w := w0) (a := ⟨W.heap.size, 1, none⟩) hb).trans h9.2⟩
/-- One local more. -/
theorem Inn.push {P : MP} {W w w1 : World} {z : MS} {ty : Int} {a : Nat} {lv : Value} {ll : List Int} (h : Inn P W z ty w a lv ll) {w0 : World} (hb0 : Below w.heap.size w w0) (ob : Obj) (t : Int) {v : Value} {n : Nat} {xs : List Value} (ho : w1.ownsRow 0 3 1 v n xs) (hn : n = ll.length + 1) (hx : xs = ll.map (Value.int .i64) ++ [.int .i64 t]) (hg : (w0.alloc ob).grownBy w1 lv.ownBlock)
    (hat : v.ownBlock = lv.ownBlock ∨ v.ownBlock = some (w0.alloc ob).heap.size) : Inn P W z ty (w1.setCell ⟨W.heap.size, 1, none⟩ v) a v (ll ++ [t]) := by
  subst hn hx
  have h9 := h.f9lt
  have hsa : (w0.alloc ob).heap.size = w0.heap.size + 1 := by simp
  have hs0 := hb0.size
  have hkg := grown_keeps hg
  have hk1 : Keeps (fun k => k < w.heap.size ∧ lv.ownBlock ≠ some k) w w1 := ((Keeps.below hb0 fun _ h => h) : Keeps (fun k => k < w.heap.size) w w0).mono (fun _ h => h.1) |>.trans (hkg.mono fun k hk => ⟨Nat.lt_of_lt_of_le hk.1 hs0, hk.2⟩)
  have hk0 : Keeps (fun b => b ≠ W.heap.size) w1 (w1.setCell ⟨W.heap.size, 1, none⟩ v) := .setCell w1 (fun e => e rfl) v
  have hf1 : w1.heap[W.heap.size]? = some (.cells #[.int .i64 ty, lv, .slice none 0 0] 36 (0, 0)) := (hk1.block _ ⟨h9, fun e => by have := h.lp _ e; omega⟩).trans h.f9
  have hvn : ∀ g, v.ownBlock = some g → W.heap.size < g := fun g hg' => by
    rcases new_at hat hg' with e | e
    · exact h.lp g e
    · omega
  have hkj : Keeps (fun k => k < w.heap.size ∧ ¬ (k = W.heap.size ∨ lv.ownBlock = some k)) w (w1.setCell ⟨W.heap.size, 1, none⟩ v) := (hk1.mono fun k hk => ⟨hk.1, fun e => hk.2 (.inr e)⟩).trans (hk0.mono fun k hk e => hk.2 (.inl e))
  have hmd := h.md.beside (fun k => k = W.heap.size ∨ lv.ownBlock = some k) (fun k hk => by
    rcases hk with rfl | hk
    · exact h.stl (Nat.le_refl _) h9 a
    · exact h.stl (Nat.le_of_lt (h.lp k hk)) (h.ow.lt k hk).2 a) hkj
  refine ⟨hmd, ⟨h.st.keeps.trans (hkj.mono fun k hk => ⟨(h.st.mono k hk).1.2, ?_⟩), fun k hk => ⟨⟨hk.1.1, Nat.lt_of_lt_of_le (h.st.mono k hk).1.2 hkj.size⟩, (h.st.mono k hk).2⟩⟩, ?_, ?_, hvn, h.base⟩
  · rintro (e | e)
    · have := hk.1.2; omega
    · have h1 := h.lp k e; have := hk.1.2; omega
  · rw [heap_setCell_at w1 W.heap.size 1 _ _ v hf1]; rfl
  · rw [List.length_append, List.map_append]
    exact owns_keep ho hk0 fun g hg' => by have := hvn g hg'; omega
/-- A literal of structs in a new block. -/
theorem field_lit {P : MP} {w : World} {x : MS} (h : Mk P w x) (cs : Array Value) (t : TypeId) (n size p : Nat) (l : List Int) (hl : l.length = n) (h0 : 0 < n) (hn : n ≤ 100) (hc : ∀ j i, j < n → i < size → ∃ u, cs[j * size + i]? = some u ∧ (i = p → u = .int .i64 (l.getD j 0))) :
    FieldK (still P x (w.alloc (.cells cs t))) (w.alloc (.cells cs t)) (.slice (some ⟨w.heap.size, 0, none⟩) n n) size p l := by
  obtain ⟨l1, l2, l3⟩ := h.lts
  have hw := h.bel.size
  refine ⟨_, n, by rw [hl], by omega, by unfold maxLen; omega, (fun h => by cases h), fun _ => ⟨w.heap.size, 0, rfl, ⟨⟨hw, by simp⟩, by omega, by omega, fun e => by have := l3 _ e; omega⟩, fun j i hj hi => ?_⟩⟩
  obtain ⟨u, h1, h2⟩ := hc j i (by omega) hi
  exact ⟨u, by rw [Nat.zero_add, World.cell?_alloc_new]; exact h1, h2⟩
end Go.Proofs.Ytdfonjnplmfhfaa
