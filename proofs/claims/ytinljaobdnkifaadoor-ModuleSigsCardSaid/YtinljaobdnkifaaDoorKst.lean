/-
  What the maker of code holds: its struct, its tape, the stack and the code that it grows; what stays as it is.
-/
import Derived.Test.YtinljaobdnkifaaDoorKrow
import Derived.Test.YtinljaobdnkifaaDoorNest
namespace Go.Proofs.YtinljaobdnkifaaDoor
open Go.RowKit

/-! ### Rows of structs -/
/-- The slice v has n elements of so many cells; f says what lies in each. -/
def CellsK (K : Nat → Prop) (w : World) (v : Value) (n size : Nat) (f : Nat → Nat → Value → Prop) : Prop :=
  ∃ A c, v = .slice A n c ∧ n ≤ c ∧ c ≤ maxLen ∧ (A = none → c = 0) ∧ (0 < n → ∃ g o : Nat, A = some ⟨g, o, none⟩ ∧ K g ∧ ∀ j i, j < n → i < size → ∃ u, w.cell? ⟨g, o + j * size + i, none⟩ = some u ∧ f j i u)
theorem CellsK.keep {K K' : Nat → Prop} {w w' : World} {v : Value} {n size : Nat} {f f' : Nat → Nat → Value → Prop} (h : CellsK K w v n size f) (hk : Keeps K w w') (hm : ∀ k, K k → K' k) (hf : ∀ j i u, f j i u → f' j i u) : CellsK K' w' v n size f' := by
  obtain ⟨A, c, rfl, h1, h2, h0, h3⟩ := h
  refine ⟨A, c, rfl, h1, h2, h0, fun hl => ?_⟩
  obtain ⟨g, o, rfl, h4, h5⟩ := h3 hl
  refine ⟨g, o, rfl, hm g h4, fun j i hj hi => ?_⟩
  obtain ⟨u, h6, h7⟩ := h5 j i hj hi
  exact ⟨u, (hk.cell (p := ⟨g, o + j * size + i, none⟩) h4).trans h6, hf j i u h7⟩
/-- A list of types reads as ts. -/
def TypesK (K : Nat → Prop) (w : World) (v : Value) (ts : List (List Int × List Int)) : Prop :=
  CellsK K w v ts.length 2 fun j i u => IntsK K w u (if i = 0 then (ts.getD j ([], [])).1 else (ts.getD j ([], [])).2)
theorem TypesK.keep {K K' : Nat → Prop} {w w' : World} {v : Value} {ts : List (List Int × List Int)} (h : TypesK K w v ts) (hk : Keeps K w w') (hm : ∀ k, K k → K' k) : TypesK K' w' v ts :=
  CellsK.keep h hk hm fun _ _ _ h => IntsK.keep h hk hm
/-- A list of structs of so many cells, of which the one at p holds an integer of l. -/
def FieldK (K : Nat → Prop) (w : World) (v : Value) (size p : Nat) (l : List Int) : Prop := CellsK K w v l.length size fun j i u => i = p → u = .int .i64 (l.getD j 0)
theorem FieldK.keep {K K' : Nat → Prop} {w w' : World} {v : Value} {size p : Nat} {l : List Int} (h : FieldK K w v size p l) (hk : Keeps K w w') (hm : ∀ k, K k → K' k) : FieldK K' w' v size p l :=
  CellsK.keep h hk hm fun _ _ _ h => h
theorem CellsK.some_ {K : Nat → Prop} {w : World} {v : Value} {n size : Nat} {f : Nat → Nat → Value → Prop} (h : CellsK K w v n size f) (hn : 0 < n) : ∃ g o c : Nat, v = .slice (some ⟨g, o, none⟩) n c ∧ n ≤ c ∧ c ≤ maxLen := by
  obtain ⟨A, c, rfl, h1, h2, h0, h3⟩ := h
  obtain ⟨g, o, rfl, _⟩ := h3 hn
  exact ⟨g, o, c, rfl, h1, h2⟩
theorem CellsK.form {K : Nat → Prop} {w : World} {v : Value} {n size : Nat} {f : Nat → Nat → Value → Prop} (h : CellsK K w v n size f) : ∃ A c, v = .slice A n c ∧ n ≤ c ∧ c ≤ maxLen := by
  obtain ⟨A, c, rfl, h1, h2, _⟩ := h
  exact ⟨A, c, rfl, h1, h2⟩
theorem CellsK.at_ {K : Nat → Prop} {w : World} {g o m n c size : Nat} {f : Nat → Nat → Value → Prop} (h : CellsK K w (.slice (some ⟨g, o, none⟩) m c) n size f) (j i : Nat) (hj : j < n) (hi : i < size) : ∃ u, w.cell? ⟨g, o + j * size + i, none⟩ = some u ∧ f j i u := by
  obtain ⟨A, c', he, h1, h2, h0, h3⟩ := h
  simp only [Value.slice.injEq] at he
  obtain ⟨rfl, rfl, rfl⟩ := he
  obtain ⟨g', o', he, _, h5⟩ := h3 (by omega)
  simp only [Option.some.injEq, Addr.mk.injEq] at he
  obtain ⟨rfl, rfl, _⟩ := he
  exact h5 j i hj hi
theorem FieldK.at_ {K : Nat → Prop} {w : World} {g o m c size p : Nat} {l : List Int} (h : FieldK K w (.slice (some ⟨g, o, none⟩) m c) size p l) (j : Nat) (hj : j < l.length) (hp : p < size) : w.cell? ⟨g, o + j * size + p, none⟩ = some (.int .i64 (l.getD j 0)) := by
  obtain ⟨u, h1, h2⟩ := CellsK.at_ h j p hj hp
  rw [h1, h2 rfl]
/-- A list of short lists. -/
def LabsK (K : Nat → Prop) (w : World) (v : Value) (n : Nat) : Prop := CellsK K w v n 1 fun _ _ u => ∃ l : List Int, l.length ≤ 3 ∧ IntsK K w u l
theorem LabsK.keep {K K' : Nat → Prop} {w w' : World} {v : Value} {n : Nat} (h : LabsK K w v n) (hk : Keeps K w w') (hm : ∀ k, K k → K' k) : LabsK K' w' v n :=
  CellsK.keep h hk hm fun _ _ _ ⟨l, h1, h2⟩ => ⟨l, h1, h2.keep hk hm⟩
/-- A list of which the length alone is known. -/
def LenK (v : Value) (n : Nat) : Prop := ∃ A c, v = .slice A n c ∧ n ≤ c ∧ c ≤ maxLen

/-- An instruction as it lies in memory. -/
structure Iv where
  op : Int
  a : Int
  b : Int
  n : Int
  l : Value
def Iv.cells (x : Iv) : List Value := [.int .i64 x.op, .int .i64 x.a, .int .i64 x.b, .int .u64 x.n, x.l]
def flat (c : List Iv) : List Value := c.flatMap Iv.cells
theorem flat_length (c : List Iv) : (flat c).length = c.length * 5 := by
  induction c with
  | nil => rfl
  | cons x c ih => simp only [flat, List.flatMap_cons, List.length_append, Iv.cells, List.length_cons, List.length_nil] at ih ⊢; omega

/-- What a maker of code is given, and keeps. -/
structure Fx where
  G : Nat
  T : Nat
  tv : Value
  tl : List Int
  m0 : Value
  m1 : Value
  m2 : Value
  m3 : Value
  m4 : Value
  m5 : Value
  m6 : Value
  m7 : Value
  lov : Value
  lo : List Int
  pv : Value
  rv : Value
  ro : List Int
  ts : List (List Int × List Int)
  is : List Int
  fs : List Int
  gs : List Int
  nm : Nat
  nd : Nat
  /-- What is open, if that is told. -/
  o : Option (List Nat)
  /-- Blocks that nothing of its own lies in. -/
  E : Nat → Prop
/-- What it turns. -/
structure St where
  sv : Value
  lv : Value
  cv : Value
  at_ : Nat
  s : List Int
  nl : Nat
  c : List Iv
  left : Int
def priv (F : Fx) (x : St) (k : Nat) : Prop := k = F.G ∨ k = F.T ∨ x.sv.ownBlock = some k ∨ x.cv.ownBlock = some k
def free (F : Fx) (w : World) (x : St) (k : Nat) : Prop := k < w.heap.size ∧ ¬ priv F x k

/-- Free, and none of those where nothing of the maker's lies. -/
def rfree (F : Fx) (w : World) (x : St) (k : Nat) : Prop := free F w x k ∧ ¬ F.E k

/-- What it reads alone. -/
structure Reads (F : Fx) (K : Nat → Prop) (w : World) (lv : Value) (nl : Nat) (c : List Iv) : Prop where
  tape : IntsK K w F.tv F.tl
  loc : IntsK K w F.lov F.lo ∧ F.lo.length ≤ 100
  own : IntsK K w F.rv F.ro ∧ F.ro.length ≤ 3
  types : TypesK K w F.m0 F.ts ∧ F.ts.length = 9 ∧ ∀ t ∈ F.ts, t.1.length ≤ 3 ∧ t.2.length ≤ 3
  imps : FieldK K w F.m1 3 2 F.is ∧ F.is.length = 2 ∧ ∀ t ∈ F.is, 0 ≤ t ∧ t < 9
  funs : FieldK K w F.m2 3 0 F.fs ∧ (0 < F.fs.length ∧ F.fs.length ≤ 4) ∧ ∀ t ∈ F.fs, 0 ≤ t ∧ t < 9
  mems : LenK F.m3 F.nm ∧ F.nm ≤ 3
  globs : FieldK K w F.m4 3 0 F.gs ∧ F.gs.length = 4
  datas : LenK F.m6 F.nd ∧ F.nd ≤ 2 ∧ (0 < F.nm → F.nd = 2)
  labs : LabsK K w lv nl
  code : ∀ iv ∈ c, ∃ l, IntsK K w iv.l l
  nest : ∀ q, F.o = some q → nestOf (c.map Iv.op) [] = some q
theorem Reads.keep {F : Fx} {K K' : Nat → Prop} {w w' : World} {lv : Value} {nl : Nat} {c : List Iv} (h : Reads F K w lv nl c) (hk : Keeps K w w') (hm : ∀ k, K k → K' k) : Reads F K' w' lv nl c :=
  ⟨h.tape.keep hk hm, ⟨h.loc.1.keep hk hm, h.loc.2⟩, ⟨h.own.1.keep hk hm, h.own.2⟩, ⟨h.types.1.keep hk hm, h.types.2⟩, ⟨h.imps.1.keep hk hm, h.imps.2⟩, ⟨h.funs.1.keep hk hm, h.funs.2⟩, h.mems, ⟨h.globs.1.keep hk hm, h.globs.2⟩, h.datas, h.labs.keep hk hm, fun iv hiv => by obtain ⟨l, hl⟩ := h.code iv hiv; exact ⟨l, hl.keep hk hm⟩, h.nest⟩

def gcells (F : Fx) (x : St) : Array Value :=
  #[.pointer (some ⟨F.T, 0, none⟩), F.m0, F.m1, F.m2, F.m3, F.m4, F.m5, F.m6, F.m7, F.lov, F.pv, F.rv, x.sv, x.lv, x.cv, .int .i64 x.left, .bool true]
/-- The maker's struct lies at G, its tape at T; it owns its stack and its code. -/
structure Gen (F : Fx) (w : World) (x : St) : Prop where
  hg : w.heap[F.G]? = some (.cells (gcells F x) 66 (0, 0))
  ht : w.heap[F.T]? = some (.cells #[F.tv, .int .i64 (x.at_ : Int)] 50 (0, 0))
  ne : F.G ≠ F.T
  so : w.ownsRow 0 3 1 x.sv x.s.length (x.s.map (Value.int .i64))
  sp : ∀ g, x.sv.ownBlock = some g → g ≠ F.G ∧ g ≠ F.T ∧ x.cv.ownBlock ≠ some g
  co : w.ownsRow 0 71 5 x.cv x.c.length (flat x.c)
  cp : ∀ g, x.cv.ownBlock = some g → g ≠ F.G ∧ g ≠ F.T
  le : x.at_ ≤ F.tl.length
  reads : Reads F (rfree F w x) w x.lv x.nl x.c

/-- From one state to a later one: what is free stays free, and as it was. -/
structure Step (F : Fx) (w : World) (x : St) (w' : World) (x' : St) : Prop where
  keeps : Keeps (free F w x) w w'
  mono : ∀ k, free F w x k → free F w' x' k
theorem Step.refl (F : Fx) (w : World) (x : St) : Step F w x w x := ⟨.refl _ _, fun _ h => h⟩
theorem Step.trans {F : Fx} {a b c : World} {x y z : St} (h : Step F a x b y) (k : Step F b y c z) : Step F a x c z :=
  ⟨h.keeps.trans (k.keeps.mono h.mono), fun i hi => k.mono i (h.mono i hi)⟩
theorem Step.ints {F : Fx} {w w' : World} {x x' : St} (h : Step F w x w' x') {v : Value} {l : List Int} (hv : IntsK (free F w x) w v l) : IntsK (free F w' x') w' v l := hv.keep h.keeps h.mono

theorem Step.rints {F : Fx} {w w' : World} {x x' : St} (h : Step F w x w' x') {v : Value} {l : List Int} (hv : IntsK (rfree F w x) w v l) : IntsK (rfree F w' x') w' v l := hv.keep (h.keeps.mono fun _ h => h.1) fun k hk => ⟨h.mono k hk.1, hk.2⟩
theorem IntsK.wide {F : Fx} {w : World} {x : St} {v : Value} {l : List Int} (h : IntsK (rfree F w x) w v l) : IntsK (free F w x) w v l := h.keep (.refl _ _) fun _ h => h.1

/-- Blocks of others come alone. -/
theorem Gen.below {F : Fx} {w w' : World} {x : St} (h : Gen F w x) (hb : Below w.heap.size w w') : Gen F w' x ∧ Step F w x w' x := by
  have hk : Keeps (free F w x) w w' := .below hb fun k hk => hk.1
  have hm : ∀ k, free F w x k → free F w' x k := fun k hk => ⟨Nat.lt_of_lt_of_le hk.1 hb.size, hk.2⟩
  exact ⟨⟨(hb.block _ (Array.getElem?_eq_some_iff.1 h.hg).1).trans h.hg, (hb.block _ (Array.getElem?_eq_some_iff.1 h.ht).1).trans h.ht, h.ne, owns_below h.so hb, h.sp, owns_below h.co hb, h.cp, h.le, h.reads.keep (hk.mono fun _ h => h.1) fun k hk => ⟨hm k hk.1, hk.2⟩⟩, hk, hm⟩
/-- The tape goes on. -/
structure TapeTo (T : Nat) (w w' : World) (tv : Value) (k : Nat) : Prop where
  os : w'.os = w.os
  tape : w'.tape = w.tape
  output : w'.output = w.output
  size : w'.heap.size = w.heap.size
  block : ∀ b, b ≠ T → w'.heap[b]? = w.heap[b]?
  at_ : w'.heap[T]? = some (.cells #[tv, .int .i64 (k : Int)] 50 (0, 0))
theorem Gen.next {F : Fx} {w w' : World} {x : St} (h : Gen F w x) {k : Nat} (ht : TapeTo F.T w w' F.tv k) (hk : k ≤ F.tl.length) : Gen F w' { x with at_ := k } ∧ Step F w x w' { x with at_ := k } := by
  have hkeep : Keeps (fun b => b ≠ F.T) w w' := ⟨ht.os, ht.tape, ht.output, by rw [ht.size]; exact Nat.le_refl _, ht.block⟩
  have hK : Keeps (free F w x) w w' := hkeep.mono fun b hb e => hb.2 (.inr (.inl e))
  have hm : ∀ b, free F w x b → free F w' { x with at_ := k } b := fun b hb => ⟨by rw [ht.size]; exact hb.1, hb.2⟩
  exact ⟨⟨(ht.block _ h.ne).trans h.hg, ht.at_, h.ne, owns_keep h.so hkeep fun g hg => (h.sp g hg).2.1, h.sp, owns_keep h.co hkeep fun g hg => (h.cp g hg).2, h.cp, hk, h.reads.keep (hK.mono fun _ h => h.1) fun k hk => ⟨hm k hk.1, hk.2⟩⟩, hK, hm⟩

theorem heap_setCell_at (w : World) (g o : Nat) (cs : Array Value) (t : TypeId) (u : Value) (h : w.heap[g]? = some (.cells cs t (0, 0))) : (w.setCell ⟨g, o, none⟩ u).heap[g]? = some (.cells (cs.setIfInBounds o u) t (0, 0)) := by
  simp [World.setCell, Array.getElem?_modify, h]
/-- A field of the struct is set, behind what turned the stack or the code alone. -/
theorem Gen.store {F : Fx} {W w : World} {x x' : St} (h : Gen F W x) (hk : Keeps (fun k => k < W.heap.size ∧ x.sv.ownBlock ≠ some k ∧ x.cv.ownBlock ≠ some k) W w) (o : Nat) (u : Value) (hc : (gcells F x).setIfInBounds o u = gcells F x') (ha : x'.at_ = x.at_)
    (hs : w.ownsRow 0 3 1 x'.sv x'.s.length (x'.s.map (Value.int .i64))) (hsp : ∀ g, x'.sv.ownBlock = some g → g ≠ F.G ∧ g ≠ F.T ∧ x'.cv.ownBlock ≠ some g)
    (hco : w.ownsRow 0 71 5 x'.cv x'.c.length (flat x'.c)) (hcp : ∀ g, x'.cv.ownBlock = some g → g ≠ F.G ∧ g ≠ F.T)
    (hm : ∀ k, priv F x' k → priv F x k ∨ W.heap.size ≤ k) (hr : Reads F (rfree F w x') w x'.lv x'.nl x'.c) : Gen F (w.setCell ⟨F.G, o, none⟩ u) x' ∧ Step F W x (w.setCell ⟨F.G, o, none⟩ u) x' := by
  have hsz : (w.setCell ⟨F.G, o, none⟩ u).heap.size = w.heap.size := by simp [World.setCell]
  have hk0 : Keeps (fun b => b ≠ F.G) w (w.setCell ⟨F.G, o, none⟩ u) := .setCell w (fun e => e rfl) u
  have hGW : F.G < W.heap.size := (Array.getElem?_eq_some_iff.1 h.hg).1
  have hTW : F.T < W.heap.size := (Array.getElem?_eq_some_iff.1 h.ht).1
  have hg : w.heap[F.G]? = some (.cells (gcells F x) 66 (0, 0)) := (hk.block F.G ⟨hGW, fun e => (h.sp _ e).1 rfl, fun e => (h.cp _ e).1 rfl⟩).trans h.hg
  have ht : w.heap[F.T]? = some (.cells #[F.tv, .int .i64 (x.at_ : Int)] 50 (0, 0)) := (hk.block F.T ⟨hTW, fun e => (h.sp _ e).2.1 rfl, fun e => (h.cp _ e).2 rfl⟩).trans h.ht
  have hK : Keeps (free F W x) W (w.setCell ⟨F.G, o, none⟩ u) := (hk.mono fun b hb => ⟨hb.1, fun e => hb.2 (.inr (.inr (.inl e))), fun e => hb.2 (.inr (.inr (.inr e)))⟩).trans ((hk0.mono fun b hb => fun e => hb.2 (.inl e)) : Keeps (free F W x) _ _)
  have hM : ∀ k, free F W x k → free F (w.setCell ⟨F.G, o, none⟩ u) x' k := fun k hk' => ⟨by rw [hsz]; exact Nat.lt_of_lt_of_le hk'.1 hk.size, fun hp => by
    rcases hm k hp with h1 | h1
    · exact hk'.2 h1
    · exact absurd hk'.1 (Nat.not_lt_of_le h1)⟩
  have hR : ∀ k, free F w x' k → free F (w.setCell ⟨F.G, o, none⟩ u) x' k := fun k hk' => ⟨by rw [hsz]; exact hk'.1, hk'.2⟩
  refine ⟨⟨by rw [heap_setCell_at w F.G o _ _ u hg, hc], (hk0.block _ (fun e => h.ne e.symm)).trans (by rw [ha]; exact ht), h.ne, owns_keep hs hk0 fun g hg => (hsp g hg).1, hsp, owns_keep hco hk0 fun g hg => (hcp g hg).1, hcp, by rw [ha]; exact h.le, hr.keep (hk0.mono fun b hb e => hb.1.2 (.inl e)) fun k hk => ⟨hR k hk.1, hk.2⟩⟩, hK, hM⟩
/-- What was read is read on, where the private blocks are the old ones or new. -/
theorem reads_on {F : Fx} {W w : World} {x x' : St} (hk : Keeps (fun k => k < W.heap.size ∧ x.sv.ownBlock ≠ some k ∧ x.cv.ownBlock ≠ some k) W w) (hm : ∀ k, priv F x' k → priv F x k ∨ W.heap.size ≤ k) :
    Keeps (rfree F W x) W w ∧ ∀ k, rfree F W x k → rfree F w x' k :=
  ⟨hk.mono fun b hb => ⟨hb.1.1, fun e => hb.1.2 (.inr (.inr (.inl e))), fun e => hb.1.2 (.inr (.inr (.inr e)))⟩, fun k hk' => ⟨⟨Nat.lt_of_lt_of_le hk'.1.1 hk.size, fun hp => by
    rcases hm k hp with h1 | h1
    · exact hk'.1.2 h1
    · exact absurd hk'.1.1 (Nat.not_lt_of_le h1)⟩, hk'.2⟩⟩
theorem flat_snoc (c : List Iv) (i : Iv) : flat (c ++ [i]) = flat c ++ i.cells := by simp [flat]
theorem Gen.lts {F : Fx} {w : World} {x : St} (h : Gen F w x) : F.G < w.heap.size ∧ F.T < w.heap.size ∧ (∀ g, x.sv.ownBlock = some g → g < w.heap.size) ∧ ∀ g, x.cv.ownBlock = some g → g < w.heap.size :=
  ⟨(Array.getElem?_eq_some_iff.1 h.hg).1, (Array.getElem?_eq_some_iff.1 h.ht).1, fun g hg => (h.so.lt g hg).2, fun g hg => (h.co.lt g hg).2⟩
/-- An instruction more. -/
theorem Gen.pushC {F : Fx} {W w : World} {x : St} (h : Gen F W x) (o : Obj) (hgr : (W.alloc o).grownBy w x.cv.ownBlock) (i : Iv) (v : Value) (hown : w.ownsRow 0 71 5 v (x.c.length + 1) (flat x.c ++ i.cells))
    (hat : v.ownBlock = x.cv.ownBlock ∨ v.ownBlock = some (W.alloc o).heap.size) (hl : ∃ q, IntsK (rfree F W x) W i.l q) (hF : F.o = none) :
    Gen F (w.setCell ⟨F.G, 14, none⟩ v) { x with cv := v, c := x.c ++ [i] } ∧ Step F W x (w.setCell ⟨F.G, 14, none⟩ v) { x with cv := v, c := x.c ++ [i] } := by
  obtain ⟨l1, l2, l3, l4⟩ := h.lts
  have hsz : (W.alloc o).heap.size = W.heap.size + 1 := by simp
  have hka : Keeps (fun k => k < W.heap.size) W (W.alloc o) := .alloc W (fun _ h => h) o
  have hkg : Keeps (fun k => k < W.heap.size ∧ x.cv.ownBlock ≠ some k) (W.alloc o) w := .mono (.grown (K := fun k => k < W.heap.size ∧ x.cv.ownBlock ≠ some k) hgr (fun k hk => by rw [hsz]; have := hk.1; omega) (fun k e hk => hk.2 e)) fun _ h => h
  have hkk : Keeps (fun k => k < W.heap.size ∧ x.cv.ownBlock ≠ some k) W w := (hka.mono fun _ h => h.1).trans hkg
  have hk : Keeps (fun k => k < W.heap.size ∧ x.sv.ownBlock ≠ some k ∧ x.cv.ownBlock ≠ some k) W w := hkk.mono fun _ h => ⟨h.1, h.2.2⟩
  have hm : ∀ k, priv F { x with cv := v, c := x.c ++ [i] } k → priv F x k ∨ W.heap.size ≤ k := by
    rintro k (e | e | e | e)
    · exact .inl (.inl e)
    · exact .inl (.inr (.inl e))
    · exact .inl (.inr (.inr (.inl e)))
    · rcases hat with h1 | h1
      · exact .inl (.inr (.inr (.inr (h1 ▸ e))))
      · exact .inr (by have := h1.symm.trans e; simp only [Option.some.injEq] at this; omega)
  obtain ⟨r1, r2⟩ := reads_on hk hm
  refine h.store hk 14 v (by rfl) rfl (owns_keep h.so hkk fun g hg => ⟨l3 g hg, (h.sp g hg).2.2⟩) (fun g hg => ⟨(h.sp g hg).1, (h.sp g hg).2.1, fun e => ?_⟩) (by rw [List.length_append, flat_snoc]; exact hown) (fun g hg => ?_) hm ?_
  · rcases hat with h1 | h1
    · exact (h.sp g hg).2.2 (h1 ▸ e)
    · have e2 : some (W.alloc o).heap.size = some g := h1.symm.trans e
      simp only [Option.some.injEq] at e2
      have := l3 g hg
      omega
  · rcases hat with h1 | h1
    · exact h.cp g (h1 ▸ hg)
    · have e2 : some (W.alloc o).heap.size = some g := h1.symm.trans hg
      simp only [Option.some.injEq] at e2
      exact ⟨by omega, by omega⟩
  · have hr := h.reads.keep r1 r2
    exact ⟨hr.tape, hr.loc, hr.own, hr.types, hr.imps, hr.funs, hr.mems, hr.globs, hr.datas, hr.labs, fun j hj => by
      rcases List.mem_append.1 hj with hj | hj
      · exact hr.code j hj
      · obtain rfl := List.mem_singleton.1 hj
        obtain ⟨q, hq⟩ := hl
        exact ⟨q, hq.keep r1 r2⟩, fun q hq => by rw [hF] at hq; cases hq⟩
/-- Another thing is told of what is open. -/
theorem Gen.reo {F : Fx} {w : World} {x : St} (h : Gen F w x) (o : Option (List Nat)) (ho : ∀ q, o = some q → nestOf (x.c.map Iv.op) [] = some q) : Gen { F with o := o } w x :=
  ⟨h.hg, h.ht, h.ne, h.so, h.sp, h.co, h.cp, h.le, ⟨h.reads.tape, h.reads.loc, h.reads.own, h.reads.types, h.reads.imps, h.reads.funs, h.reads.mems, h.reads.globs, h.reads.datas, h.reads.labs, h.reads.code, ho⟩⟩
/-- The stack is another one: the old row, or a new one. -/
theorem Gen.setS {F : Fx} {W w : World} {x : St} (h : Gen F W x) (hk : Keeps (fun k => k < W.heap.size ∧ x.sv.ownBlock ≠ some k) W w) (v : Value) (s : List Int) (hown : w.ownsRow 0 3 1 v s.length (s.map (Value.int .i64)))
    (hat : v.ownBlock = x.sv.ownBlock ∨ ∀ g, v.ownBlock = some g → W.heap.size ≤ g) :
    Gen F (w.setCell ⟨F.G, 12, none⟩ v) { x with sv := v, s := s } ∧ Step F W x (w.setCell ⟨F.G, 12, none⟩ v) { x with sv := v, s := s } := by
  obtain ⟨l1, l2, l3, l4⟩ := h.lts
  have hk2 : Keeps (fun k => k < W.heap.size ∧ x.sv.ownBlock ≠ some k ∧ x.cv.ownBlock ≠ some k) W w := hk.mono fun _ h => ⟨h.1, h.2.1⟩
  have hm : ∀ k, priv F { x with sv := v, s := s } k → priv F x k ∨ W.heap.size ≤ k := by
    rintro k (e | e | e | e)
    · exact .inl (.inl e)
    · exact .inl (.inr (.inl e))
    · rcases hat with h1 | h1
      · exact .inl (.inr (.inr (.inl (h1 ▸ e))))
      · exact .inr (h1 k e)
    · exact .inl (.inr (.inr (.inr e)))
  obtain ⟨r1, r2⟩ := reads_on hk2 hm
  refine h.store hk2 12 v (by rfl) rfl hown (fun g hg => ?_) (owns_keep h.co hk fun g hg => ⟨l4 g hg, fun e => (h.sp g e).2.2 hg⟩) h.cp hm (h.reads.keep r1 r2)
  rcases hat with h1 | h1
  · exact h.sp g (h1 ▸ hg)
  · have := h1 g hg
    exact ⟨by omega, by omega, fun e => by have := l4 g e; omega⟩
/-- One more on the stack. -/
theorem Gen.pushS {F : Fx} {W w : World} {x : St} (h : Gen F W x) (o : Obj) (hgr : (W.alloc o).grownBy w x.sv.ownBlock) (t : Int) (v : Value) (hown : w.ownsRow 0 3 1 v (x.s.length + 1) (x.s.map (Value.int .i64) ++ [.int .i64 t]))
    (hat : v.ownBlock = x.sv.ownBlock ∨ v.ownBlock = some (W.alloc o).heap.size) :
    Gen F (w.setCell ⟨F.G, 12, none⟩ v) { x with sv := v, s := x.s ++ [t] } ∧ Step F W x (w.setCell ⟨F.G, 12, none⟩ v) { x with sv := v, s := x.s ++ [t] } := by
  have hsz : (W.alloc o).heap.size = W.heap.size + 1 := by simp
  have hka : Keeps (fun k => k < W.heap.size) W (W.alloc o) := .alloc W (fun _ h => h) o
  have hkg : Keeps (fun k => k < W.heap.size ∧ x.sv.ownBlock ≠ some k) (W.alloc o) w := .grown hgr (fun k hk => by rw [hsz]; have := hk.1; omega) (fun k e hk => hk.2 e)
  refine h.setS ((hka.mono fun _ h => h.1).trans hkg) v (x.s ++ [t]) (by rw [List.length_append, List.map_append]; exact hown) ?_
  rcases hat with h1 | h1
  · exact .inl h1
  · exact .inr fun g e => by have := h1.symm.trans e; simp only [Option.some.injEq] at this; omega

/-! ### What the walk reads -/
section
variable {F : Fx} {w : World} {x : St}
theorem Gen.cell (h : Gen F w x) (o : Nat) : w.cell? ⟨F.G, o, none⟩ = (gcells F x)[o]? := by simp [World.cell?, h.hg]
theorem Gen.frozen (h : Gen F w x) (o : Nat) : w.frozen? ⟨F.G, o, none⟩ = false := by simp [World.frozen?, h.hg]
theorem Gen.c0 (h : Gen F w x) : w.cell? ⟨F.G, 0, none⟩ = some (.pointer (some ⟨F.T, 0, none⟩)) := h.cell 0
theorem Gen.c1 (h : Gen F w x) : w.cell? ⟨F.G, 1, none⟩ = some F.m0 := h.cell 1
theorem Gen.c2 (h : Gen F w x) : w.cell? ⟨F.G, 2, none⟩ = some F.m1 := h.cell 2
theorem Gen.c3 (h : Gen F w x) : w.cell? ⟨F.G, 3, none⟩ = some F.m2 := h.cell 3
theorem Gen.c4 (h : Gen F w x) : w.cell? ⟨F.G, 4, none⟩ = some F.m3 := h.cell 4
theorem Gen.c5 (h : Gen F w x) : w.cell? ⟨F.G, 5, none⟩ = some F.m4 := h.cell 5
theorem Gen.c6 (h : Gen F w x) : w.cell? ⟨F.G, 6, none⟩ = some F.m5 := h.cell 6
theorem Gen.c7 (h : Gen F w x) : w.cell? ⟨F.G, 7, none⟩ = some F.m6 := h.cell 7
theorem Gen.c8 (h : Gen F w x) : w.cell? ⟨F.G, 8, none⟩ = some F.m7 := h.cell 8
theorem Gen.c9 (h : Gen F w x) : w.cell? ⟨F.G, 9, none⟩ = some F.lov := h.cell 9
theorem Gen.c11 (h : Gen F w x) : w.cell? ⟨F.G, 11, none⟩ = some F.rv := h.cell 11
theorem Gen.c12 (h : Gen F w x) : w.cell? ⟨F.G, 12, none⟩ = some x.sv := h.cell 12
theorem Gen.c13 (h : Gen F w x) : w.cell? ⟨F.G, 13, none⟩ = some x.lv := h.cell 13
theorem Gen.c14 (h : Gen F w x) : w.cell? ⟨F.G, 14, none⟩ = some x.cv := h.cell 14
theorem Gen.c15 (h : Gen F w x) : w.cell? ⟨F.G, 15, none⟩ = some (.int .i64 x.left) := h.cell 15
theorem Gen.sform (h : Gen F w x) : ∃ A c, x.sv = .slice A x.s.length c ∧ x.s.length ≤ c ∧ c ≤ maxLen := by
  rcases h.so.2 with ⟨h1, h2⟩ | ⟨g, cap, cur, h1, _, _, h2, h3, _⟩
  · exact ⟨none, 0, by rw [h1, h2], by omega, by unfold maxLen; omega⟩
  · exact ⟨_, cap, h1, h2, h3⟩
theorem Gen.new_free (h : Gen F w x) {k : Nat} (hk : w.heap.size ≤ k) : ¬ priv F x k := by
  obtain ⟨l1, l2, l3, l4⟩ := h.lts
  rintro (e | e | e | e)
  · omega
  · omega
  · have := l3 k e; omega
  · have := l4 k e; omega
/-- A new block beside it. -/
theorem Gen.alloc (h : Gen F w x) (o : Obj) : Gen F (w.alloc o) x ∧ Step F w x (w.alloc o) x := h.below ((Below.refl _ _).alloc (Nat.le_refl _) o)
theorem Gen.new_cell (h : Gen F w x) (cs : Array Value) (t : TypeId) {w' : World} {x' : St} (hs : Step F (w.alloc (.cells cs t)) x w' x') (j : Nat) : w'.cell? ⟨w.heap.size, j, none⟩ = cs[j]? :=
  (hs.keeps.cell (p := ⟨w.heap.size, j, none⟩) ⟨by simp, h.new_free (Nat.le_refl _)⟩).trans (World.cell?_alloc_new w cs t j)
theorem Gen.drew (h : Gen F w x) : Gen F w.drew x ∧ Step F w x w.drew x := h.below ((Below.refl _ _).drew)
/-- What a push wants of the struct. -/
theorem Gen.pushf (h : Gen F w x) (o : Obj) : (w.alloc o).cell? ⟨F.G, 12, none⟩ = some x.sv ∧ ∀ w2, (w.alloc o).grownBy w2 x.sv.ownBlock → w2.cell? ⟨F.G, 12, none⟩ = some x.sv ∧ w2.frozen? ⟨F.G, 12, none⟩ = false := by
  have hG := h.lts.1
  refine ⟨by rw [World.cell?_alloc_lt _ _ _ (by exact hG)]; exact h.c12, fun w2 hgr => ?_⟩
  have hb : w2.heap[F.G]? = w.heap[F.G]? := (hgr.block F.G (by simp; omega) (fun e => (h.sp _ e.symm).1 rfl)).trans (Below.heap_alloc w o _ hG)
  exact ⟨(World.cell?_of_block (w := w) (a := ⟨F.G, 12, none⟩) hb).trans h.c12, (World.frozen?_of_block (w := w) (a := ⟨F.G, 12, none⟩) hb).trans (h.frozen 12)⟩
end
theorem owns_nothing (W : World) (e : TypeId) : (W.alloc (.cells #[] e)).ownsRow 0 e 1 (.slice (some ⟨W.heap.size, 0, none⟩) 0 0) 0 [] := World.ownsRow_made W #[] 0 (Nat.zero_le _) (Nat.zero_le _) rfl
/-- Behind a first append onto a new row. -/
theorem keeps_made {W w1 : World} {o : Obj} (hg1 : (W.alloc o).grownBy w1 (some W.heap.size)) : Keeps (fun k => k < W.heap.size) W w1 :=
  (Keeps.alloc W (fun _ h => h) o).trans (.grown hg1 (fun k hk => by simp; omega) (fun k e hk => by simp only [Option.some.injEq] at e; omega))
/-- Behind a second one. -/
theorem keeps_made2 {W w1 w2 : World} {o : Obj} {v1 : Value} (hk1 : Keeps (fun k => k < W.heap.size) W w1) (ha1 : v1.ownBlock = some W.heap.size ∨ v1.ownBlock = some (W.alloc o).heap.size) (hg2 : w1.grownBy w2 v1.ownBlock) : Keeps (fun k => k < W.heap.size) W w2 :=
  hk1.trans (.grown hg2 (fun k hk => Nat.lt_of_lt_of_le hk hk1.size) (fun k e hk => by
    have hs : (W.alloc o).heap.size = W.heap.size + 1 := by simp
    rcases ha1 with h | h
    · have := h.symm.trans e; simp only [Option.some.injEq] at this; omega
    · have := h.symm.trans e; simp only [Option.some.injEq] at this; omega))
theorem made_at {W w1 : World} {o : Obj} {v1 v2 : Value} (hk1 : Keeps (fun k => k < W.heap.size) W w1) (ha1 : v1.ownBlock = some W.heap.size ∨ v1.ownBlock = some (W.alloc o).heap.size) (ha2 : v2.ownBlock = v1.ownBlock ∨ v2.ownBlock = some w1.heap.size) : ∀ g, v2.ownBlock = some g → W.heap.size ≤ g := by
  have hs : (W.alloc o).heap.size = W.heap.size + 1 := by simp
  have h1 := hk1.size
  intro g hg
  rcases ha2 with h | h
  · rcases ha1 with k | k
    · have := (k.symm.trans h.symm).trans hg; simp only [Option.some.injEq] at this; omega
    · have := (k.symm.trans h.symm).trans hg; simp only [Option.some.injEq] at this; omega
  · have := h.symm.trans hg; simp only [Option.some.injEq] at this; omega
theorem Gen.store12 {F : Fx} {W w : World} {x : St} (h : Gen F W x) (hk : Keeps (fun k => k < W.heap.size) W w) : w.cell? ⟨F.G, 12, none⟩ = some x.sv ∧ w.frozen? ⟨F.G, 12, none⟩ = false :=
  ⟨(World.cell?_of_block (w := W) (a := ⟨F.G, 12, none⟩) (hk.block F.G h.lts.1)).trans h.c12, (World.frozen?_of_block (w := W) (a := ⟨F.G, 12, none⟩) (hk.block F.G h.lts.1)).trans (h.frozen 12)⟩
/-- What lies in older blocks is news still. -/
theorem IntsK.news_at {K : Nat → Prop} {W w : World} {v : Value} {l : List Int} (h : IntsK K W v l) (hK : ∀ k, K k → k < W.heap.size) (hk : Keeps (fun k => k < W.heap.size) W w) : News w v l.length (l.map (Value.int .i64)) :=
  (h.keep (hk.mono hK) (fun _ h => h)).news
/-- The beginning of the stack, as news. -/
theorem Gen.snews {F : Fx} {W w : World} {x : St} (h : Gen F W x) (hk : Keeps (fun k => k < W.heap.size) W w) {A : Option Addr} {c d : Nat} (hs : x.sv = .slice A x.s.length c) (hd : d ≤ x.s.length) : News w (.slice A d c) d ((x.s.take d).map (Value.int .i64)) := by
  rcases h.so.2 with ⟨h1, h2⟩ | ⟨g, cap, cur, h1, _⟩
  · rw [hs] at h1
    simp only [Value.slice.injEq] at h1
    obtain ⟨rfl, h3, rfl⟩ := h1
    obtain rfl : d = 0 := by omega
    exact .inl ⟨rfl, rfl, by simp⟩
  · rw [hs] at h1
    simp only [Value.slice.injEq] at h1
    obtain ⟨rfl, _, rfl⟩ := h1
    have h0 := h.so
    rw [hs] at h0
    have hg : g < W.heap.size := (h0.lt g rfl).2
    refine .inr ⟨_, c, rfl, fun j u hu => ?_⟩
    rw [add_lit0]
    rcases Nat.lt_or_ge j d with hj | hj
    · rw [hk.cell (p := ⟨g, j, none⟩) hg, h0.cellAt j (by omega)]
      rw [List.map_take, List.getElem?_take, if_pos hj] at hu
      exact hu
    · rw [List.getElem?_eq_none (by simp; omega)] at hu; cases hu
theorem ones_int (l : List Int) : ∀ u ∈ l.map (Value.int .i64), u.oneCell' = true := by
  intro u hu; obtain ⟨x, _, rfl⟩ := List.mem_map.1 hu; rfl
/-- So many more on the stack and in the code; all else in number as it was. -/
def Num (x x' : St) (ds dc : Nat) : Prop := x'.s.length = x.s.length + ds ∧ x'.c.length = x.c.length + dc ∧ x'.nl = x.nl ∧ x'.left = x.left
theorem Num.trans {x y z : St} {a b c d : Nat} (h : Num x y a b) (k : Num y z c d) : Num x z (a + c) (b + d) := by
  obtain ⟨h1, h2, h3, h4⟩ := h; obtain ⟨k1, k2, k3, k4⟩ := k
  exact ⟨by omega, by omega, k3.trans h3, k4.trans h4⟩
/-- How much the maker has made. -/
def Most (x : St) (B : Nat) : Prop := x.s.length + x.c.length ≤ B
theorem Most.num {x x' : St} {B a b : Nat} (h : Most x B) (hn : Num x x' a b) : Most x' (B + a + b) := by
  obtain ⟨h1, h2, _⟩ := hn; unfold Most at h ⊢; omega
theorem Most.le {x : St} {B C : Nat} (h : Most x B) (hB : B ≤ C) : Most x C := Nat.le_trans h hB
theorem Most.s {x : St} {B : Nat} (h : Most x B) : x.s.length ≤ B := by unfold Most at h; omega
theorem Most.c {x : St} {B : Nat} (h : Most x B) : x.c.length ≤ B := by unfold Most at h; omega
/-- No fewer on the stack, at most so many more things made; all else in number as it was. -/
def Up (x x' : St) (d : Nat) : Prop := x.s.length ≤ x'.s.length ∧ x'.s.length + x'.c.length ≤ x.s.length + x.c.length + d ∧ x'.nl = x.nl ∧ x'.left = x.left
theorem Up.refl (x : St) : Up x x 0 := ⟨Nat.le_refl _, Nat.le_refl _, rfl, rfl⟩
theorem Num.up {x x' : St} {a b : Nat} (h : Num x x' a b) : Up x x' (a + b) := by
  obtain ⟨h1, h2, h3, h4⟩ := h; exact ⟨by omega, by omega, h3, h4⟩
theorem Up.trans {x y z : St} {d e : Nat} (h : Up x y d) (k : Up y z e) : Up x z (d + e) := by
  obtain ⟨h1, h2, h3, h4⟩ := h; obtain ⟨k1, k2, k3, k4⟩ := k
  exact ⟨by omega, by omega, k3.trans h3, k4.trans h4⟩
theorem Up.le {x y : St} {d e : Nat} (h : Up x y d) (hd : d ≤ e) : Up x y e := ⟨h.1, by have := h.2.1; omega, h.2.2⟩
theorem Most.up {x x' : St} {B d : Nat} (h : Most x B) (hn : Up x x' d) : Most x' (B + d) := by
  obtain ⟨_, h2, _⟩ := hn; unfold Most at h ⊢; omega
/-- What a method leaves: v comes back, and a later state with R. -/
def GPost (F : Fx) (w : World) (x : St) (v : Value) (R : St → Prop) (e : Ending) (w' : World) : Prop := e = .returned v ∧ ∃ x', Gen F w' x' ∧ Step F w x w' x' ∧ R x'
end Go.Proofs.YtinljaobdnkifaaDoor
