/-
  What the maker of modules holds while it makes one.
-/
import Derived.Test.YtdfonjnplmfhfaaKmake
import Derived.Test.YtdfonjnplmfhfaaKloc
import Derived.Test.YtdfonjnplmfhfaaKtypes
import Derived.Test.YtdfonjnplmfhfaaKapp
import Derived.OneCell
namespace Go.Proofs.Ytdfonjnplmfhfaa
open Go.RowKit

/-! ### Rows of functions, memories, exports -/
def fnCells (f : Int × Value × Value) : List Value := [.int .i64 f.1, f.2.1, f.2.2]
def flatFn (l : List (Int × Value × Value)) : List Value := l.flatMap fnCells
def mmCells (m : Int × Int) : List Value := [.int .i64 m.1, .int .i64 m.2]
def flatMm (l : List (Int × Int)) : List Value := l.flatMap mmCells
def exCells (e : ByteArray × Int × Int) : List Value := [.string e.1, .int .i64 e.2.1, .int .i64 e.2.2]
def flatEx (l : List (ByteArray × Int × Int)) : List Value := l.flatMap exCells
theorem flatFn_snoc (l : List (Int × Value × Value)) (x : Int × Value × Value) : flatFn (l ++ [x]) = flatFn l ++ fnCells x := by simp [flatFn]
theorem flatMm_snoc (l : List (Int × Int)) (x : Int × Int) : flatMm (l ++ [x]) = flatMm l ++ mmCells x := by simp [flatMm]
theorem flatEx_snoc (l : List (ByteArray × Int × Int)) (x : ByteArray × Int × Int) : flatEx (l ++ [x]) = flatEx l ++ exCells x := by simp [flatEx]
theorem flatFn_length (l : List (Int × Value × Value)) : (flatFn l).length = l.length * 3 := by
  induction l with
  | nil => rfl
  | cons x l ih => simp only [flatFn, List.flatMap_cons, List.length_append, fnCells, List.length_cons, List.length_nil] at ih ⊢; omega
theorem flatFn_at (l : List (Int × Value × Value)) : ∀ k (f : Int × Value × Value), l[k]? = some f → (flatFn l)[k * 3]? = some (.int .i64 f.1) ∧ (flatFn l)[k * 3 + 1]? = some f.2.1 ∧ (flatFn l)[k * 3 + 2]? = some f.2.2 := by
  induction l with
  | nil => intro k f h; simp at h
  | cons x l ih =>
    intro k f h
    rw [show flatFn (x :: l) = fnCells x ++ flatFn l from rfl]
    cases k with
    | zero => simp only [List.getElem?_cons_zero, Option.some.injEq] at h; subst h; exact ⟨rfl, rfl, rfl⟩
    | succ k =>
      have h3 : (fnCells x).length = 3 := rfl
      rw [List.getElem?_append_right (by rw [h3]; omega), List.getElem?_append_right (by rw [h3]; omega), List.getElem?_append_right (by rw [h3]; omega), h3, show (k + 1) * 3 - 3 = k * 3 by omega, show (k + 1) * 3 + 1 - 3 = k * 3 + 1 by omega, show (k + 1) * 3 + 2 - 3 = k * 3 + 2 by omega]
      exact ih k f (by simpa using h)
theorem flatFn_set (l : List (Int × Value × Value)) : ∀ k (f : Int × Value × Value) (u : Value), l[k]? = some f → flatFn (l.set k (f.1, f.2.1, u)) = (flatFn l).set (k * 3 + 2) u := by
  induction l with
  | nil => intro k f u h; simp at h
  | cons x l ih =>
    intro k f u h
    cases k with
    | zero => simp only [List.getElem?_cons_zero, Option.some.injEq] at h; subst h; rfl
    | succ k =>
      have h3 : (fnCells x).length = 3 := rfl
      have h1 := ih k f u (by simpa using h)
      rw [List.set_cons_succ, show flatFn (x :: l.set k (f.1, f.2.1, u)) = fnCells x ++ flatFn (l.set k (f.1, f.2.1, u)) from rfl, h1, show flatFn (x :: l) = fnCells x ++ flatFn l from rfl]
      rw [List.set_append_right _ _ (by rw [h3]; omega), h3, show (k + 1) * 3 + 2 - 3 = k * 3 + 2 by omega]

/-! ### The state -/
structure MS where
  m0 : Value
  m1 : Value
  m2 : Value
  m3 : Value
  m4 : Value
  m5 : Value
  m6 : Value
  at_ : Nat
  fs : List (Int × Value × Value)
  ms : List (Int × Int)
  es : List (ByteArray × Int × Int)
/-- What is given: the world at the call, the blocks of the module and the tape, the tape. -/
structure MP where
  W : World
  M : Nat
  T : Nat
  tv : Value
  tl : List Int
def own3 (x : MS) (k : Nat) : Prop := x.m2.ownBlock = some k ∨ x.m3.ownBlock = some k ∨ x.m5.ownBlock = some k
/-- Blocks of the call's own in which nothing turns any more. -/
def still (P : MP) (x : MS) (w : World) (k : Nat) : Prop := (P.W.heap.size ≤ k ∧ k < w.heap.size) ∧ k ≠ P.M ∧ k ≠ P.T ∧ ¬ own3 x k
def mcells (x : MS) : Array Value := #[x.m0, x.m1, x.m2, x.m3, x.m4, x.m5, x.m6, .slice none 0 0]
structure Mk (P : MP) (w : World) (x : MS) : Prop where
  bel : Below P.W.heap.size P.W w
  hM : w.heap[P.M]? = some (.cells (mcells x) 32 (0, 0))
  hT : w.heap[P.T]? = some (.cells #[P.tv, .int .i64 (x.at_ : Int)] 50 (0, 0))
  le : x.at_ ≤ P.tl.length
  tape : IntsK (fun k => k < P.W.heap.size) P.W P.tv P.tl
  new : P.W.heap.size ≤ P.M ∧ P.W.heap.size ≤ P.T ∧ P.M ≠ P.T
  fo : w.ownsRow 0 36 3 x.m2 x.fs.length (flatFn x.fs)
  mo : w.ownsRow 0 58 2 x.m3 x.ms.length (flatMm x.ms)
  eo : w.ownsRow 0 63 3 x.m5 x.es.length (flatEx x.es)
  fp : ∀ g, x.m2.ownBlock = some g → P.W.heap.size ≤ g ∧ g ≠ P.M ∧ g ≠ P.T ∧ x.m3.ownBlock ≠ some g ∧ x.m5.ownBlock ≠ some g
  mp : ∀ g, x.m3.ownBlock = some g → P.W.heap.size ≤ g ∧ g ≠ P.M ∧ g ≠ P.T ∧ x.m5.ownBlock ≠ some g
  ep : ∀ g, x.m5.ownBlock = some g → P.W.heap.size ≤ g ∧ g ≠ P.M ∧ g ≠ P.T
structure MStep (P : MP) (w : World) (x : MS) (w' : World) (x' : MS) : Prop where
  keeps : Keeps (still P x w) w w'
  mono : ∀ k, still P x w k → still P x' w' k
theorem MStep.refl (P : MP) (w : World) (x : MS) : MStep P w x w x := ⟨.refl _ _, fun _ h => h⟩
theorem MStep.trans {P : MP} {a b c : World} {x y z : MS} (h : MStep P a x b y) (k : MStep P b y c z) : MStep P a x c z :=
  ⟨h.keeps.trans (k.keeps.mono h.mono), fun i hi => k.mono i (h.mono i hi)⟩
theorem MStep.ints {P : MP} {w w' : World} {x x' : MS} (h : MStep P w x w' x') {v : Value} {l : List Int} (hv : IntsK (still P x w) w v l) : IntsK (still P x' w') w' v l := hv.keep h.keeps h.mono
theorem MStep.field {P : MP} {w w' : World} {x x' : MS} (h : MStep P w x w' x') {v : Value} {s p : Nat} {l : List Int} (hv : FieldK (still P x w) w v s p l) : FieldK (still P x' w') w' v s p l := hv.keep h.keeps h.mono
theorem MStep.types {P : MP} {w w' : World} {x x' : MS} (h : MStep P w x w' x') {v : Value} {l : List (List Int × List Int)} (hv : TypesK (still P x w) w v l) : TypesK (still P x' w') w' v l := hv.keep h.keeps h.mono
theorem Mk.lts {P : MP} {w : World} {x : MS} (h : Mk P w x) : P.M < w.heap.size ∧ P.T < w.heap.size ∧ (∀ g, own3 x g → g < w.heap.size) := by
  refine ⟨(Array.getElem?_eq_some_iff.1 h.hM).1, (Array.getElem?_eq_some_iff.1 h.hT).1, fun g hg => ?_⟩
  rcases hg with e | e | e
  · exact (h.fo.lt g e).2
  · exact (h.mo.lt g e).2
  · exact (h.eo.lt g e).2
/-- All but the tape stays: the tape goes on, new blocks come. -/
theorem Mk.later {P : MP} {w w' : World} {x : MS} (h : Mk P w x) (hk : Keeps (fun k => k < w.heap.size ∧ k ≠ P.T) w w') (a : Nat) (ha : a ≤ P.tl.length) (hT : w'.heap[P.T]? = some (.cells #[P.tv, .int .i64 (a : Int)] 50 (0, 0))) :
    Mk P w' { x with at_ := a } ∧ MStep P w x w' { x with at_ := a } := by
  obtain ⟨l1, l2, l3⟩ := h.lts
  have hb : Below P.W.heap.size P.W w' := ⟨hk.os.trans h.bel.os, hk.tape.trans h.bel.tape, hk.output.trans h.bel.output, Nat.le_trans h.bel.size hk.size, fun k hk' => (hk.block k ⟨Nat.lt_of_lt_of_le hk' h.bel.size, fun e => by have := h.new.2.1; omega⟩).trans (h.bel.block k hk')⟩
  exact ⟨⟨hb, (hk.block _ ⟨l1, h.new.2.2⟩).trans h.hM, hT, ha, h.tape, h.new, owns_keep h.fo hk fun g hg => ⟨l3 g (.inl hg), (h.fp g hg).2.2.1⟩, owns_keep h.mo hk fun g hg => ⟨l3 g (.inr (.inl hg)), (h.mp g hg).2.2.1⟩, owns_keep h.eo hk fun g hg => ⟨l3 g (.inr (.inr hg)), (h.ep g hg).2.2⟩, h.fp, h.mp, h.ep⟩,
    hk.mono fun k hk' => ⟨hk'.1.2, hk'.2.2.1⟩, fun k hk' => ⟨⟨hk'.1.1, Nat.lt_of_lt_of_le hk'.1.2 hk.size⟩, hk'.2⟩⟩
theorem Mk.below {P : MP} {w w' : World} {x : MS} (h : Mk P w x) (hb : Below w.heap.size w w') : Mk P w' x ∧ MStep P w x w' x :=
  h.later (Keeps.below hb fun _ h => h.1) x.at_ h.le ((hb.block _ h.lts.2.1).trans h.hT)
/-- A field of the module is set, behind what turned one row alone. -/
theorem Mk.store {P : MP} {w w1 : World} {x x' : MS} (h : Mk P w x) (r : Option Nat) (hr : ∀ k, r = some k → own3 x k) (hk : Keeps (fun k => k < w.heap.size ∧ r ≠ some k) w w1) (o : Nat) (u : Value) (hc : (mcells x).setIfInBounds o u = mcells x') (ha : x'.at_ = x.at_)
    (fo : w1.ownsRow 0 36 3 x'.m2 x'.fs.length (flatFn x'.fs)) (mo : w1.ownsRow 0 58 2 x'.m3 x'.ms.length (flatMm x'.ms)) (eo : w1.ownsRow 0 63 3 x'.m5 x'.es.length (flatEx x'.es))
    (fp : ∀ g, x'.m2.ownBlock = some g → P.W.heap.size ≤ g ∧ g ≠ P.M ∧ g ≠ P.T ∧ x'.m3.ownBlock ≠ some g ∧ x'.m5.ownBlock ≠ some g) (mp : ∀ g, x'.m3.ownBlock = some g → P.W.heap.size ≤ g ∧ g ≠ P.M ∧ g ≠ P.T ∧ x'.m5.ownBlock ≠ some g) (ep : ∀ g, x'.m5.ownBlock = some g → P.W.heap.size ≤ g ∧ g ≠ P.M ∧ g ≠ P.T)
    (hn : ∀ k, own3 x' k → own3 x k ∨ w.heap.size ≤ k) : Mk P (w1.setCell ⟨P.M, o, none⟩ u) x' ∧ MStep P w x (w1.setCell ⟨P.M, o, none⟩ u) x' := by
  obtain ⟨l1, l2, l3⟩ := h.lts
  have hrM : r ≠ some P.M := fun e => by
    rcases hr _ e with e | e | e
    · exact (h.fp _ e).2.1 rfl
    · exact (h.mp _ e).2.1 rfl
    · exact (h.ep _ e).2.1 rfl
  have hrT : r ≠ some P.T := fun e => by
    rcases hr _ e with e | e | e
    · exact (h.fp _ e).2.2.1 rfl
    · exact (h.mp _ e).2.2.1 rfl
    · exact (h.ep _ e).2.2 rfl
  have hrW : ∀ k, r = some k → P.W.heap.size ≤ k := fun k e => by
    rcases hr _ e with e | e | e
    · exact (h.fp _ e).1
    · exact (h.mp _ e).1
    · exact (h.ep _ e).1
  have hsz : (w1.setCell ⟨P.M, o, none⟩ u).heap.size = w1.heap.size := by simp [World.setCell]
  have hk0 : Keeps (fun b => b ≠ P.M) w1 (w1.setCell ⟨P.M, o, none⟩ u) := .setCell w1 (fun e => e rfl) u
  have hM : w1.heap[P.M]? = some (.cells (mcells x) 32 (0, 0)) := (hk.block _ ⟨l1, hrM⟩).trans h.hM
  have hb1 : Below P.W.heap.size P.W w1 := ⟨hk.os.trans h.bel.os, hk.tape.trans h.bel.tape, hk.output.trans h.bel.output, Nat.le_trans h.bel.size hk.size, fun k hk' => (hk.block k ⟨Nat.lt_of_lt_of_le hk' h.bel.size, fun e => by have := hrW k e; omega⟩).trans (h.bel.block k hk')⟩
  refine ⟨⟨hb1.setCell (by exact h.new.1) u, by rw [heap_setCell_at w1 P.M o _ _ u hM, hc], (hk0.block _ (fun e => h.new.2.2 e.symm)).trans (by rw [ha]; exact (hk.block _ ⟨l2, hrT⟩).trans h.hT), by rw [ha]; exact h.le, h.tape, h.new,
    owns_keep fo hk0 fun g hg => (fp g hg).2.1, owns_keep mo hk0 fun g hg => (mp g hg).2.1, owns_keep eo hk0 fun g hg => (ep g hg).2.1, fp, mp, ep⟩, ?_, ?_⟩
  · exact (hk.mono fun k hk' => ⟨hk'.1.2, fun e => hk'.2.2.2 (hr k e)⟩).trans (hk0.mono fun k hk' => hk'.2.1)
  · intro k hk'
    refine ⟨⟨hk'.1.1, by rw [hsz]; exact Nat.lt_of_lt_of_le hk'.1.2 hk.size⟩, hk'.2.1, hk'.2.2.1, fun e => ?_⟩
    rcases hn k e with e | e
    · exact hk'.2.2.2 e
    · have := hk'.1.2; omega
theorem new_at {v v' : Value} {N : Nat} (hat : v'.ownBlock = v.ownBlock ∨ v'.ownBlock = some N) {g : Nat} (hg : v'.ownBlock = some g) : v.ownBlock = some g ∨ g = N := by
  rcases hat with h | h
  · exact .inl (h ▸ hg)
  · have := h.symm.trans hg
    simp only [Option.some.injEq] at this
    exact .inr this.symm
/-- What append leaves of all else. -/
theorem grown_keeps {w w1 : World} {o : Obj} {r : Option Nat} (hg : (w.alloc o).grownBy w1 r) : Keeps (fun k => k < w.heap.size ∧ r ≠ some k) w w1 :=
  ((Keeps.alloc w (fun _ h => h) o).mono fun _ h => h.1).trans (.grown hg (fun k hk => by simp; omega) (fun k e hk => hk.2 e))
/-- One memory more. -/
theorem Mk.pushM {P : MP} {w w1 : World} {x : MS} (h : Mk P w x) (o : Obj) (m : Int × Int) {v : Value} {n : Nat} {xs : List Value} (ho : w1.ownsRow 0 58 2 v n xs) (hn : n = x.ms.length + 1) (hx : xs = flatMm x.ms ++ mmCells m) (hg : (w.alloc o).grownBy w1 x.m3.ownBlock) (hat : v.ownBlock = x.m3.ownBlock ∨ v.ownBlock = some (w.alloc o).heap.size) :
    Mk P (w1.setCell ⟨P.M, 3, none⟩ v) { x with m3 := v, ms := x.ms ++ [m] } ∧ MStep P w x (w1.setCell ⟨P.M, 3, none⟩ v) { x with m3 := v, ms := x.ms ++ [m] } := by
  subst hn hx
  obtain ⟨l1, l2, l3⟩ := h.lts
  have hs : (w.alloc o).heap.size = w.heap.size + 1 := by simp
  have hk := grown_keeps hg
  have hW := h.bel.size
  refine h.store x.m3.ownBlock (fun k e => .inr (.inl e)) hk 3 v rfl rfl (owns_keep h.fo hk fun g hg => ⟨l3 g (.inl hg), fun e => (h.fp g hg).2.2.2.1 e⟩) (by rw [List.length_append, flatMm_snoc]; exact ho) (owns_keep h.eo hk fun g hg => ⟨l3 g (.inr (.inr hg)), fun e => (h.mp g e).2.2.2 hg⟩) (fun g hg => ?_) (fun g hg => ?_) h.ep (fun k e => ?_)
  · obtain ⟨a, b, c, d, e⟩ := h.fp g hg
    refine ⟨a, b, c, fun e2 => ?_, e⟩
    rcases new_at hat e2 with e3 | e3
    · exact d e3
    · have := l3 g (.inl hg); omega
  · rcases new_at hat hg with e3 | e3
    · exact h.mp g e3
    · exact ⟨by omega, by omega, by omega, fun e => by have := l3 g (.inr (.inr e)); omega⟩
  · rcases e with e | e | e
    · exact .inl (.inl e)
    · rcases new_at hat e with e3 | e3
      · exact .inl (.inr (.inl e3))
      · exact .inr (by omega)
    · exact .inl (.inr (.inr e))
/-- One export more. -/
theorem Mk.pushE {P : MP} {w w1 : World} {x : MS} (h : Mk P w x) (o : Obj) (m : ByteArray × Int × Int) {v : Value} {n : Nat} {xs : List Value} (ho : w1.ownsRow 0 63 3 v n xs) (hn : n = x.es.length + 1) (hx : xs = flatEx x.es ++ exCells m) (hg : (w.alloc o).grownBy w1 x.m5.ownBlock) (hat : v.ownBlock = x.m5.ownBlock ∨ v.ownBlock = some (w.alloc o).heap.size) :
    Mk P (w1.setCell ⟨P.M, 5, none⟩ v) { x with m5 := v, es := x.es ++ [m] } ∧ MStep P w x (w1.setCell ⟨P.M, 5, none⟩ v) { x with m5 := v, es := x.es ++ [m] } := by
  subst hn hx
  obtain ⟨l1, l2, l3⟩ := h.lts
  have hs : (w.alloc o).heap.size = w.heap.size + 1 := by simp
  have hk := grown_keeps hg
  have hW := h.bel.size
  refine h.store x.m5.ownBlock (fun k e => .inr (.inr e)) hk 5 v rfl rfl (owns_keep h.fo hk fun g hg => ⟨l3 g (.inl hg), fun e => (h.fp g hg).2.2.2.2 e⟩) (owns_keep h.mo hk fun g hg => ⟨l3 g (.inr (.inl hg)), fun e => (h.mp g hg).2.2.2 e⟩) (by rw [List.length_append, flatEx_snoc]; exact ho) (fun g hg => ?_) (fun g hg => ?_) (fun g hg => ?_) (fun k e => ?_)
  · obtain ⟨a, b, c, d, e⟩ := h.fp g hg
    refine ⟨a, b, c, d, fun e2 => ?_⟩
    rcases new_at hat e2 with e3 | e3
    · exact e e3
    · have := l3 g (.inl hg); omega
  · obtain ⟨a, b, c, d⟩ := h.mp g hg
    refine ⟨a, b, c, fun e2 => ?_⟩
    rcases new_at hat e2 with e3 | e3
    · exact d e3
    · have := l3 g (.inr (.inl hg)); omega
  · rcases new_at hat hg with e3 | e3
    · exact h.ep g e3
    · exact ⟨by omega, by omega, by omega⟩
  · rcases e with e | e | e
    · exact .inl (.inl e)
    · exact .inl (.inr (.inl e))
    · rcases new_at hat e with e3 | e3
      · exact .inl (.inr (.inr e3))
      · exact .inr (by omega)
/-- One function more. -/
theorem Mk.pushF {P : MP} {w w1 : World} {x : MS} (h : Mk P w x) (o : Obj) (m : Int × Value × Value) {v : Value} {n : Nat} {xs : List Value} (ho : w1.ownsRow 0 36 3 v n xs) (hn : n = x.fs.length + 1) (hx : xs = flatFn x.fs ++ fnCells m) (hg : (w.alloc o).grownBy w1 x.m2.ownBlock) (hat : v.ownBlock = x.m2.ownBlock ∨ v.ownBlock = some (w.alloc o).heap.size) :
    Mk P (w1.setCell ⟨P.M, 2, none⟩ v) { x with m2 := v, fs := x.fs ++ [m] } ∧ MStep P w x (w1.setCell ⟨P.M, 2, none⟩ v) { x with m2 := v, fs := x.fs ++ [m] } := by
  subst hn hx
  obtain ⟨l1, l2, l3⟩ := h.lts
  have hs : (w.alloc o).heap.size = w.heap.size + 1 := by simp
  have hk := grown_keeps hg
  have hW := h.bel.size
  refine h.store x.m2.ownBlock (fun k e => .inl e) hk 2 v rfl rfl (by rw [List.length_append, flatFn_snoc]; exact ho) (owns_keep h.mo hk fun g hg => ⟨l3 g (.inr (.inl hg)), fun e => (h.fp g e).2.2.2.1 hg⟩) (owns_keep h.eo hk fun g hg => ⟨l3 g (.inr (.inr hg)), fun e => (h.fp g e).2.2.2.2 hg⟩) (fun g hg => ?_) h.mp h.ep (fun k e => ?_)
  · rcases new_at hat hg with e3 | e3
    · exact h.fp g e3
    · exact ⟨by omega, by omega, by omega, fun e => by have := l3 g (.inr (.inl e)); omega, fun e => by have := l3 g (.inr (.inr e)); omega⟩
  · rcases e with e | e | e
    · rcases new_at hat e with e3 | e3
      · exact .inl (.inl e3)
      · exact .inr (by omega)
    · exact .inl (.inr (.inl e))
    · exact .inl (.inr (.inr e))
/-- The imports, the globals, the datas are set. -/
theorem Mk.set1 {P : MP} {w : World} {x : MS} (h : Mk P w x) (u : Value) : Mk P (w.setCell ⟨P.M, 1, none⟩ u) { x with m1 := u } ∧ MStep P w x (w.setCell ⟨P.M, 1, none⟩ u) { x with m1 := u } :=
  h.store none (fun _ e => by cases e) (.refl _ _) 1 u rfl rfl h.fo h.mo h.eo h.fp h.mp h.ep fun _ e => .inl e
theorem Mk.set4 {P : MP} {w : World} {x : MS} (h : Mk P w x) (u : Value) : Mk P (w.setCell ⟨P.M, 4, none⟩ u) { x with m4 := u } ∧ MStep P w x (w.setCell ⟨P.M, 4, none⟩ u) { x with m4 := u } :=
  h.store none (fun _ e => by cases e) (.refl _ _) 4 u rfl rfl h.fo h.mo h.eo h.fp h.mp h.ep fun _ e => .inl e
theorem Mk.set6 {P : MP} {w : World} {x : MS} (h : Mk P w x) (u : Value) : Mk P (w.setCell ⟨P.M, 6, none⟩ u) { x with m6 := u } ∧ MStep P w x (w.setCell ⟨P.M, 6, none⟩ u) { x with m6 := u } :=
  h.store none (fun _ e => by cases e) (.refl _ _) 6 u rfl rfl h.fo h.mo h.eo h.fp h.mp h.ep fun _ e => .inl e
/-- A function's code is set. -/
theorem Mk.code {P : MP} {w : World} {x : MS} (h : Mk P w x) {g c j : Nat} (hm : x.m2 = .slice (some ⟨g, 0, none⟩) x.fs.length c) {f : Int × Value × Value} (hf : x.fs[j]? = some f) (u : Value) :
    Mk P (w.setCell ⟨g, j * 3 + 2, none⟩ u) { x with fs := x.fs.set j (f.1, f.2.1, u) } ∧ MStep P w x (w.setCell ⟨g, j * 3 + 2, none⟩ u) { x with fs := x.fs.set j (f.1, f.2.1, u) } := by
  obtain ⟨l1, l2, l3⟩ := h.lts
  have hg2 : x.m2.ownBlock = some g := by rw [hm]; rfl
  obtain ⟨p1, p2, p3, p4, p5⟩ := h.fp g hg2
  have hfo := h.fo
  rw [hm] at hfo
  have hst := (hfo.stored (j * 3 + 2) u).1
  have hk0 : Keeps (fun b => b ≠ g) w (w.setCell ⟨g, j * 3 + 2, none⟩ u) := .setCell w (fun e => e rfl) u
  have hsz : (w.setCell ⟨g, j * 3 + 2, none⟩ u).heap.size = w.heap.size := by simp [World.setCell]
  refine ⟨⟨h.bel.setCell (by exact p1) u, (hk0.block _ (fun e => p2 e.symm)).trans h.hM, (hk0.block _ (fun e => p3 e.symm)).trans h.hT, h.le, h.tape, h.new, ?_, owns_keep h.mo hk0 fun k hk e => p4 (e ▸ hk), owns_keep h.eo hk0 fun k hk e => p5 (e ▸ hk), h.fp, h.mp, h.ep⟩, hk0.mono fun k hk e => hk.2.2.2 (.inl (e ▸ hg2)), fun k hk => ⟨⟨hk.1.1, by rw [hsz]; exact hk.1.2⟩, hk.2⟩⟩
  rw [hm, List.length_set, flatFn_set x.fs j f u hf]
  exact hst
end Go.Proofs.Ytdfonjnplmfhfaa
