/- A part of the proof. -/
import Derived.Test.YteohmkceapblkaaDoorJ3
namespace Go.Proofs.YteohmkceapblkaaDoor
section
open Go.RowKit
def CellsK (K : Nat → Prop) (w : World) (v : Value) (n size : Nat) (f : Nat → Nat → Value → Prop) : Prop :=
  ∃ A c, v = .slice A n c ∧ n ≤ c ∧ c ≤ maxLen ∧ (A = none → c = 0) ∧ (0 < n → ∃ g o : Nat, A = some ⟨g, o, none⟩ ∧ K g ∧ ∀ j i, j < n → i < size → ∃ u, w.cell? ⟨g, o + j * size + i, none⟩ = some u ∧ f j i u)
theorem CellsK.keep {K K' : Nat → Prop} {w w' : World} {v : Value} {n size : Nat} {f f' : Nat → Nat → Value → Prop} (h : CellsK K w v n size f) (hk : Keeps K w w') (hm : ∀ k, K k → K' k) (hf : ∀ j i u, f j i u → f' j i u) : CellsK K' w' v n size f' := by
  obtain ⟨A, c, rfl, h1, h2, h0, h3⟩ := h
  refine ⟨A, c, rfl, h1, h2, h0, fun hl => ?_⟩
  obtain ⟨g, o, rfl, h4, h5⟩ := h3 hl
  refine ⟨g, o, rfl, hm g h4, fun j i hj hi => ?_⟩
  obtain ⟨u, h6, h7⟩ := h5 j i hj hi
  exact ⟨u, (hk.cell (p := ⟨g, o + j * size + i, none⟩) h4).trans h6, hf j i u h7⟩
def TypesK (K : Nat → Prop) (w : World) (v : Value) (ts : List (List Int × List Int)) : Prop :=
  CellsK K w v ts.length 2 fun j i u => IntsK K w u (if i = 0 then (ts.getD j ([], [])).1 else (ts.getD j ([], [])).2)
theorem TypesK.keep {K K' : Nat → Prop} {w w' : World} {v : Value} {ts : List (List Int × List Int)} (h : TypesK K w v ts) (hk : Keeps K w w') (hm : ∀ k, K k → K' k) : TypesK K' w' v ts :=
  CellsK.keep h hk hm fun _ _ _ h => IntsK.keep h hk hm
def FieldK (K : Nat → Prop) (w : World) (v : Value) (size p : Nat) (l : List Int) : Prop := CellsK K w v l.length size fun j i u => i = p → u = .int .i64 (l.getD j 0)
theorem FieldK.keep {K K' : Nat → Prop} {w w' : World} {v : Value} {size p : Nat} {l : List Int} (h : FieldK K w v size p l) (hk : Keeps K w w') (hm : ∀ k, K k → K' k) : FieldK K' w' v size p l :=
  CellsK.keep h hk hm fun _ _ _ h => h
theorem CellsK.some_ {K : Nat → Prop} {w : World} {v : Value} {n size : Nat} {f : Nat → Nat → Value → Prop} (h : CellsK K w v n size f) (hn : 0 < n) : ∃ g o c : Nat, v = .slice (some ⟨g, o, none⟩) n c ∧ n ≤ c ∧ c ≤ maxLen := by
  obtain ⟨A, c, rfl, h1, h2, h0, h3⟩ := h
  obtain ⟨g, o, rfl, _⟩ := h3 hn
  exact ⟨g, o, c, rfl, h1, h2⟩
theorem CellsK.form {K : Nat → Prop} {w : World} {v : Value} {n size : Nat} {f : Nat → Nat → Value → Prop} (h : CellsK K w v n size f) : ∃ A c, v = .slice A n c ∧ n ≤ c ∧ c ≤ maxLen := by
  obtain ⟨A, c, rfl, h1, h2, _⟩ := h
  exact ⟨A, c, rfl, h1, h2⟩
theorem CellsK.at_ {K : Nat → Prop} {w : World} {g o m n c size : Nat} {f : Nat → Nat → Value → Prop} (h : CellsK K w (.slice (some ⟨g, o, none⟩) m c) n size f) (j i : Nat) (hj : j < n) (hi : i < size) : ∃ u, w.cell? ⟨g, o + j * size + i, none⟩ = some u ∧ f j i u := by
  obtain ⟨A, c', he, h1, h2, h0, h3⟩ := h
  simp only [Value.slice.injEq] at he
  obtain ⟨rfl, rfl, rfl⟩ := he
  obtain ⟨g', o', he, _, h5⟩ := h3 (by omega)
  simp only [Option.some.injEq, Addr.mk.injEq] at he
  obtain ⟨rfl, rfl, _⟩ := he
  exact h5 j i hj hi
theorem FieldK.at_ {K : Nat → Prop} {w : World} {g o m c size p : Nat} {l : List Int} (h : FieldK K w (.slice (some ⟨g, o, none⟩) m c) size p l) (j : Nat) (hj : j < l.length) (hp : p < size) : w.cell? ⟨g, o + j * size + p, none⟩ = some (.int .i64 (l.getD j 0)) := by
  obtain ⟨u, h1, h2⟩ := CellsK.at_ h j p hj hp
  rw [h1, h2 rfl]
def LabsK (K : Nat → Prop) (w : World) (v : Value) (n : Nat) : Prop := CellsK K w v n 1 fun _ _ u => ∃ l : List Int, l.length ≤ 3 ∧ IntsK K w u l
theorem LabsK.keep {K K' : Nat → Prop} {w w' : World} {v : Value} {n : Nat} (h : LabsK K w v n) (hk : Keeps K w w') (hm : ∀ k, K k → K' k) : LabsK K' w' v n :=
  CellsK.keep h hk hm fun _ _ _ ⟨l, h1, h2⟩ => ⟨l, h1, h2.keep hk hm⟩
def LenK (v : Value) (n : Nat) : Prop := ∃ A c, v = .slice A n c ∧ n ≤ c ∧ c ≤ maxLen
structure Iv where
  op : Int
  a : Int
  b : Int
  n : Int
  l : Value
def Iv.cells (x : Iv) : List Value := [.int .i64 x.op, .int .i64 x.a, .int .i64 x.b, .int .u64 x.n, x.l]
structure Fx where
  G : Nat
  T : Nat
  tv : Value
  tl : List Int
  m0 : Value
  m1 : Value
  m2 : Value
  m3 : Value
  m4 : Value
  m5 : Value
  m6 : Value
  m7 : Value
  lov : Value
  lo : List Int
  pv : Value
  rv : Value
  ro : List Int
  ts : List (List Int × List Int)
  is : List Int
  fs : List Int
  gs : List Int
  nm : Nat
  nd : Nat
  o : Option (List Nat)
  E : Nat → Prop
structure St where
  sv : Value
  lv : Value
  cv : Value
  at_ : Nat
  s : List Int
  nl : Nat
  c : List Iv
  left : Int
def priv (F : Fx) (x : St) (k : Nat) : Prop := k = F.G ∨ k = F.T ∨ x.sv.ownBlock = some k ∨ x.cv.ownBlock = some k
def free (F : Fx) (w : World) (x : St) (k : Nat) : Prop := k < w.heap.size ∧ ¬ priv F x k
structure Reads (F : Fx) (K : Nat → Prop) (w : World) (lv : Value) (nl : Nat) (c : List Iv) : Prop where
  tape : IntsK K w F.tv F.tl
  loc : IntsK K w F.lov F.lo ∧ F.lo.length ≤ 100
  own : IntsK K w F.rv F.ro ∧ F.ro.length ≤ 3
  types : TypesK K w F.m0 F.ts ∧ F.ts.length = 9 ∧ ∀ t ∈ F.ts, t.1.length ≤ 3 ∧ t.2.length ≤ 3
  imps : FieldK K w F.m1 3 2 F.is ∧ F.is.length = 2 ∧ ∀ t ∈ F.is, 0 ≤ t ∧ t < 9
  funs : FieldK K w F.m2 3 0 F.fs ∧ (0 < F.fs.length ∧ F.fs.length ≤ 4) ∧ ∀ t ∈ F.fs, 0 ≤ t ∧ t < 9
  mems : LenK F.m3 F.nm ∧ F.nm ≤ 3
  globs : FieldK K w F.m4 3 0 F.gs ∧ F.gs.length = 4
  datas : LenK F.m6 F.nd ∧ F.nd ≤ 2 ∧ (0 < F.nm → F.nd = 2)
  labs : LabsK K w lv nl
  code : ∀ iv ∈ c, ∃ l, IntsK K w iv.l l ∧ okB iv.op iv.a iv.b iv.n l = true
  nest : ∀ q, F.o = some q → nestOf (c.map Iv.op) [] = some q
theorem Reads.keep {F : Fx} {K K' : Nat → Prop} {w w' : World} {lv : Value} {nl : Nat} {c : List Iv} (h : Reads F K w lv nl c) (hk : Keeps K w w') (hm : ∀ k, K k → K' k) : Reads F K' w' lv nl c :=
  ⟨h.tape.keep hk hm, ⟨h.loc.1.keep hk hm, h.loc.2⟩, ⟨h.own.1.keep hk hm, h.own.2⟩, ⟨h.types.1.keep hk hm, h.types.2⟩, ⟨h.imps.1.keep hk hm, h.imps.2⟩, ⟨h.funs.1.keep hk hm, h.funs.2⟩, h.mems, ⟨h.globs.1.keep hk hm, h.globs.2⟩, h.datas, h.labs.keep hk hm, fun iv hiv => by obtain ⟨l, hl, ho⟩ := h.code iv hiv; exact ⟨l, hl.keep hk hm, ho⟩, h.nest⟩
structure Step (F : Fx) (w : World) (x : St) (w' : World) (x' : St) : Prop where
  keeps : Keeps (free F w x) w w'
  mono : ∀ k, free F w x k → free F w' x' k
theorem Step.refl (F : Fx) (w : World) (x : St) : Step F w x w x := ⟨.refl _ _, fun _ h => h⟩
theorem Step.trans {F : Fx} {a b c : World} {x y z : St} (h : Step F a x b y) (k : Step F b y c z) : Step F a x c z :=
  ⟨h.keeps.trans (k.keeps.mono h.mono), fun i hi => k.mono i (h.mono i hi)⟩
theorem Step.ints {F : Fx} {w w' : World} {x x' : St} (h : Step F w x w' x') {v : Value} {l : List Int} (hv : IntsK (free F w x) w v l) : IntsK (free F w' x') w' v l := hv.keep h.keeps h.mono
theorem heap_setCell_at (w : World) (g o : Nat) (cs : Array Value) (t : TypeId) (u : Value) (h : w.heap[g]? = some (.cells cs t (0, 0))) : (w.setCell ⟨g, o, none⟩ u).heap[g]? = some (.cells (cs.setIfInBounds o u) t (0, 0)) := by
  simp [World.setCell, Array.getElem?_modify, h]
section
variable {F : Fx} {w : World} {x : St}
end
theorem owns_nothing (W : World) (e : TypeId) : (W.alloc (.cells #[] e)).ownsRow 0 e 1 (.slice (some ⟨W.heap.size, 0, none⟩) 0 0) 0 [] := World.ownsRow_made W #[] 0 (Nat.zero_le _) (Nat.zero_le _) rfl
theorem keeps_made {W w1 : World} {o : Obj} (hg1 : (W.alloc o).grownBy w1 (some W.heap.size)) : Keeps (fun k => k < W.heap.size) W w1 :=
  (Keeps.alloc W (fun _ h => h) o).trans (.grown hg1 (fun k hk => by simp; omega) (fun k e hk => by simp only [Option.some.injEq] at e; omega))
theorem ones_int (l : List Int) : ∀ u ∈ l.map (Value.int .i64), u.oneCell' = true := by
  intro u hu; obtain ⟨x, _, rfl⟩ := List.mem_map.1 hu; rfl
def Num (x x' : St) (ds dc : Nat) : Prop := x'.s.length = x.s.length + ds ∧ x'.c.length = x.c.length + dc ∧ x'.nl = x.nl ∧ x'.left = x.left
theorem Num.trans {x y z : St} {a b c d : Nat} (h : Num x y a b) (k : Num y z c d) : Num x z (a + c) (b + d) := by
  obtain ⟨h1, h2, h3, h4⟩ := h; obtain ⟨k1, k2, k3, k4⟩ := k
  exact ⟨by omega, by omega, k3.trans h3, k4.trans h4⟩
def Most (x : St) (B : Nat) : Prop := x.s.length + x.c.length ≤ B
theorem Most.s {x : St} {B : Nat} (h : Most x B) : x.s.length ≤ B := by unfold Most at h; omega
theorem Most.c {x : St} {B : Nat} (h : Most x B) : x.c.length ≤ B := by unfold Most at h; omega
def Up (x x' : St) (d : Nat) : Prop := x.s.length ≤ x'.s.length ∧ x'.s.length + x'.c.length ≤ x.s.length + x.c.length + d ∧ x'.nl = x.nl ∧ x'.left = x.left
theorem Up.refl (x : St) : Up x x 0 := ⟨Nat.le_refl _, Nat.le_refl _, rfl, rfl⟩
theorem Num.up {x x' : St} {a b : Nat} (h : Num x x' a b) : Up x x' (a + b) := by
  obtain ⟨h1, h2, h3, h4⟩ := h; exact ⟨by omega, by omega, h3, h4⟩
theorem Up.trans {x y z : St} {d e : Nat} (h : Up x y d) (k : Up y z e) : Up x z (d + e) := by
  obtain ⟨h1, h2, h3, h4⟩ := h; obtain ⟨k1, k2, k3, k4⟩ := k
  exact ⟨by omega, by omega, k3.trans h3, k4.trans h4⟩
theorem Most.up {x x' : St} {B d : Nat} (h : Most x B) (hn : Up x x' d) : Most x' (B + d) := by
  obtain ⟨_, h2, _⟩ := hn; unfold Most at h ⊢; omega
end
section
open Go.RowKit
structure Ins where
  op : Int
  a : Int
  b : Int
  n : Int
  l : List Int
structure Fnc where
  ty : Int
  loc : List Int
  code : List Ins
structure Dat where
  act : Bool
  mem : Int
  pos : Int
  bytes : List Nat
structure Mdl where
  types : List (List Int × List Int)
  imps : List (ByteArray × ByteArray × Int)
  funs : List Fnc
  mems : List (Int × Int)
  globs : List (Int × Bool × Int)
  exps : List (ByteArray × Int × Int)
  datas : List Dat
  cus : List (ByteArray × List Nat)
def wordZ (z : Int) : Prop := 0 ≤ z ∧ z ≤ 18446744073709551615
def fitN (n : Nat) : Prop := n * 8 ≤ 140737488355328
def BytesK (K : Nat → Prop) (w : World) (v : Value) (l : List Nat) : Prop :=
  ∃ A c, v = .slice A l.length c ∧ l.length ≤ maxLen ∧ l.length ≤ c ∧ (A = none → c = 0) ∧ (0 < l.length → ∃ g o : Nat, A = some ⟨g, o, none⟩ ∧ K g ∧ ∀ j, j < l.length → w.cell? ⟨g, o + j, none⟩ = some (.int .u8 ((l.getD j 0 : Nat) : Int))) ∧ ∀ b ∈ l, b < 256
theorem BytesK.keep {K K' : Nat → Prop} {w w' : World} {v : Value} {l : List Nat} (h : BytesK K w v l) (hk : Keeps K w w') (hm : ∀ k, K k → K' k) : BytesK K' w' v l := by
  obtain ⟨A, c, rfl, h1, hc, h0, h3, hb⟩ := h
  refine ⟨A, c, rfl, h1, hc, h0, fun hl => ?_, hb⟩
  obtain ⟨g, o, rfl, h4, h5⟩ := h3 hl
  exact ⟨g, o, rfl, hm g h4, fun j hj => (hk.cell (p := ⟨g, o + j, none⟩) h4).trans (h5 j hj)⟩
theorem BytesK.nil (K : Nat → Prop) (w : World) : BytesK K w (.slice none 0 0) [] := ⟨none, 0, rfl, Nat.zero_le _, Nat.zero_le _, fun _ => rfl, fun h => by simp at h, fun _ h => by cases h⟩
def insCell (K : Nat → Prop) (w : World) (x : Ins) : Nat → Value → Prop
  | 0, u => u = .int .i64 x.op
  | 1, u => u = .int .i64 x.a
  | 2, u => u = .int .i64 x.b
  | 3, u => u = .int .u64 x.n ∧ wordZ x.n
  | _, u => IntsK K w u x.l ∧ fitN x.l.length
def ins0 : Ins := ⟨0, 0, 0, 0, []⟩
def CodeK (K : Nat → Prop) (w : World) (v : Value) (c : List Ins) : Prop := CellsK K w v c.length 5 fun j i u => insCell K w (c.getD j ins0) i u
theorem insCell.keep {K K' : Nat → Prop} {w w' : World} {x : Ins} {i : Nat} {u : Value} (h : insCell K w x i u) (hk : Keeps K w w') (hm : ∀ k, K k → K' k) : insCell K' w' x i u := by
  match i, h with
  | 0, h => exact h
  | 1, h => exact h
  | 2, h => exact h
  | 3, h => exact h
  | _ + 4, h => exact ⟨IntsK.keep h.1 hk hm, h.2⟩
theorem CodeK.keep {K K' : Nat → Prop} {w w' : World} {v : Value} {c : List Ins} (h : CodeK K w v c) (hk : Keeps K w w') (hm : ∀ k, K k → K' k) : CodeK K' w' v c :=
  CellsK.keep h hk hm fun _ _ _ h => h.keep hk hm
def fncCell (K : Nat → Prop) (w : World) (x : Fnc) : Nat → Value → Prop
  | 0, u => u = .int .i64 x.ty
  | 1, u => IntsK K w u x.loc
  | _, u => CodeK K w u x.code
def fnc0 : Fnc := ⟨0, [], []⟩
def FunsK (K : Nat → Prop) (w : World) (v : Value) (l : List Fnc) : Prop := CellsK K w v l.length 3 fun j i u => fncCell K w (l.getD j fnc0) i u
theorem fncCell.keep {K K' : Nat → Prop} {w w' : World} {x : Fnc} {i : Nat} {u : Value} (h : fncCell K w x i u) (hk : Keeps K w w') (hm : ∀ k, K k → K' k) : fncCell K' w' x i u := by
  match i, h with
  | 0, h => exact h
  | 1, h => exact IntsK.keep h hk hm
  | _ + 2, h => exact CodeK.keep h hk hm
theorem FunsK.keep {K K' : Nat → Prop} {w w' : World} {v : Value} {l : List Fnc} (h : FunsK K w v l) (hk : Keeps K w w') (hm : ∀ k, K k → K' k) : FunsK K' w' v l :=
  CellsK.keep h hk hm fun _ _ _ h => h.keep hk hm
def impCell (x : ByteArray × ByteArray × Int) : Nat → Value → Prop
  | 0, u => u = .string x.1
  | 1, u => u = .string x.2.1
  | _, u => u = .int .i64 x.2.2
def ImpsK (K : Nat → Prop) (w : World) (v : Value) (l : List (ByteArray × ByteArray × Int)) : Prop := CellsK K w v l.length 3 fun j i u => impCell (l.getD j (ByteArray.empty, ByteArray.empty, 0)) i u
def memCell (x : Int × Int) : Nat → Value → Prop
  | 0, u => u = .int .i64 x.1
  | _, u => u = .int .i64 x.2
def MemsK (K : Nat → Prop) (w : World) (v : Value) (l : List (Int × Int)) : Prop := CellsK K w v l.length 2 fun j i u => memCell (l.getD j (0, 0)) i u
def globCell (x : Int × Bool × Int) : Nat → Value → Prop
  | 0, u => u = .int .i64 x.1
  | 1, u => u = .bool x.2.1
  | _, u => u = .int .u64 x.2.2 ∧ wordZ x.2.2
def GlobsK (K : Nat → Prop) (w : World) (v : Value) (l : List (Int × Bool × Int)) : Prop := CellsK K w v l.length 3 fun j i u => globCell (l.getD j (0, false, 0)) i u
def expCell (x : ByteArray × Int × Int) : Nat → Value → Prop
  | 0, u => u = .string x.1
  | 1, u => u = .int .i64 x.2.1
  | _, u => u = .int .i64 x.2.2
def ExpsK (K : Nat → Prop) (w : World) (v : Value) (l : List (ByteArray × Int × Int)) : Prop := CellsK K w v l.length 3 fun j i u => expCell (l.getD j (ByteArray.empty, 0, 0)) i u
def dat0 : Dat := ⟨false, 0, 0, []⟩
def datCell (K : Nat → Prop) (w : World) (x : Dat) : Nat → Value → Prop
  | 0, u => u = .bool x.act
  | 1, u => u = .int .i64 x.mem
  | 2, u => u = .int .i64 x.pos
  | _, u => BytesK K w u x.bytes
def DatasK (K : Nat → Prop) (w : World) (v : Value) (l : List Dat) : Prop := CellsK K w v l.length 4 fun j i u => datCell K w (l.getD j dat0) i u
theorem datCell.keep {K K' : Nat → Prop} {w w' : World} {x : Dat} {i : Nat} {u : Value} (h : datCell K w x i u) (hk : Keeps K w w') (hm : ∀ k, K k → K' k) : datCell K' w' x i u := by
  match i, h with
  | 0, h => exact h
  | 1, h => exact h
  | 2, h => exact h
  | _ + 3, h => exact BytesK.keep h hk hm
theorem DatasK.keep {K K' : Nat → Prop} {w w' : World} {v : Value} {l : List Dat} (h : DatasK K w v l) (hk : Keeps K w w') (hm : ∀ k, K k → K' k) : DatasK K' w' v l :=
  CellsK.keep h hk hm fun _ _ _ h => h.keep hk hm
def cusCell (K : Nat → Prop) (w : World) (x : ByteArray × List Nat) : Nat → Value → Prop
  | 0, u => u = .string x.1
  | _, u => BytesK K w u x.2
def CusK (K : Nat → Prop) (w : World) (v : Value) (l : List (ByteArray × List Nat)) : Prop := CellsK K w v l.length 2 fun j i u => cusCell K w (l.getD j (ByteArray.empty, [])) i u
theorem cusCell.keep {K K' : Nat → Prop} {w w' : World} {x : ByteArray × List Nat} {i : Nat} {u : Value} (h : cusCell K w x i u) (hk : Keeps K w w') (hm : ∀ k, K k → K' k) : cusCell K' w' x i u := by
  match i, h with
  | 0, h => exact h
  | _ + 1, h => exact BytesK.keep h hk hm
theorem CusK.keep {K K' : Nat → Prop} {w w' : World} {v : Value} {l : List (ByteArray × List Nat)} (h : CusK K w v l) (hk : Keeps K w w') (hm : ∀ k, K k → K' k) : CusK K' w' v l :=
  CellsK.keep h hk hm fun _ _ _ h => h.keep hk hm
structure Mv where
  m0 : Value
  m1 : Value
  m2 : Value
  m3 : Value
  m4 : Value
  m5 : Value
  m6 : Value
  m7 : Value
def Mv.cells (v : Mv) : Array Value := #[v.m0, v.m1, v.m2, v.m3, v.m4, v.m5, v.m6, v.m7]
structure ModAt (K : Nat → Prop) (w : World) (v : Mv) (m : Mdl) : Prop where
  types : TypesK K w v.m0 m.types
  imps : ImpsK K w v.m1 m.imps
  funs : FunsK K w v.m2 m.funs
  mems : MemsK K w v.m3 m.mems
  globs : GlobsK K w v.m4 m.globs
  exps : ExpsK K w v.m5 m.exps
  datas : DatasK K w v.m6 m.datas
  cus : CusK K w v.m7 m.cus
theorem ModAt.keep {K K' : Nat → Prop} {w w' : World} {v : Mv} {m : Mdl} (h : ModAt K w v m) (hk : Keeps K w w') (hm : ∀ k, K k → K' k) : ModAt K' w' v m :=
  ⟨h.types.keep hk hm, h.imps.keep hk hm (fun _ _ _ h => h), h.funs.keep hk hm, h.mems.keep hk hm (fun _ _ _ h => h), h.globs.keep hk hm (fun _ _ _ h => h), h.exps.keep hk hm (fun _ _ _ h => h), h.datas.keep hk hm, h.cus.keep hk hm⟩
end
end Go.Proofs.YteohmkceapblkaaDoor
