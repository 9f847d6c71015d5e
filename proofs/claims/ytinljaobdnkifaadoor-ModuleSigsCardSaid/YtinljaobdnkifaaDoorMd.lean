/-
  Modules as plain data, and how they lie in memory.
-/
import Derived.Test.YtinljaobdnkifaaDoorKst
namespace Go.Proofs.YtinljaobdnkifaaDoor
open Go.RowKit

/-! ### Plain data -/
structure Ins where
  op : Int
  a : Int
  b : Int
  n : Int
  l : List Int
structure Fnc where
  ty : Int
  loc : List Int
  code : List Ins
structure Dat where
  act : Bool
  mem : Int
  pos : Int
  bytes : List Nat
structure Mdl where
  types : List (List Int × List Int)
  imps : List (ByteArray × ByteArray × Int)
  funs : List Fnc
  mems : List (Int × Int)
  globs : List (Int × Bool × Int)
  exps : List (ByteArray × Int × Int)
  datas : List Dat
  cus : List (ByteArray × List Nat)

/-! ### In memory -/
/-- The slice v reads as the bytes l; its cells lie in blocks of K. -/
def BytesK (K : Nat → Prop) (w : World) (v : Value) (l : List Nat) : Prop :=
  ∃ A c, v = .slice A l.length c ∧ l.length ≤ maxLen ∧ l.length ≤ c ∧ (A = none → c = 0) ∧ (0 < l.length → ∃ g o : Nat, A = some ⟨g, o, none⟩ ∧ K g ∧ ∀ j, j < l.length → w.cell? ⟨g, o + j, none⟩ = some (.int .u8 ((l.getD j 0 : Nat) : Int)))
theorem BytesK.keep {K K' : Nat → Prop} {w w' : World} {v : Value} {l : List Nat} (h : BytesK K w v l) (hk : Keeps K w w') (hm : ∀ k, K k → K' k) : BytesK K' w' v l := by
  obtain ⟨A, c, rfl, h1, hc, h0, h3⟩ := h
  refine ⟨A, c, rfl, h1, hc, h0, fun hl => ?_⟩
  obtain ⟨g, o, rfl, h4, h5⟩ := h3 hl
  exact ⟨g, o, rfl, hm g h4, fun j hj => (hk.cell (p := ⟨g, o + j, none⟩) h4).trans (h5 j hj)⟩
theorem BytesK.nil (K : Nat → Prop) (w : World) : BytesK K w (.slice none 0 0) [] := ⟨none, 0, rfl, Nat.zero_le _, Nat.zero_le _, fun _ => rfl, fun h => by simp at h⟩
/-- One cell of an instruction. -/
def insCell (K : Nat → Prop) (w : World) (x : Ins) : Nat → Value → Prop
  | 0, u => u = .int .i64 x.op
  | 1, u => u = .int .i64 x.a
  | 2, u => u = .int .i64 x.b
  | 3, u => u = .int .u64 x.n
  | _, u => IntsK K w u x.l
def ins0 : Ins := ⟨0, 0, 0, 0, []⟩
def CodeK (K : Nat → Prop) (w : World) (v : Value) (c : List Ins) : Prop := CellsK K w v c.length 5 fun j i u => insCell K w (c.getD j ins0) i u
theorem insCell.keep {K K' : Nat → Prop} {w w' : World} {x : Ins} {i : Nat} {u : Value} (h : insCell K w x i u) (hk : Keeps K w w') (hm : ∀ k, K k → K' k) : insCell K' w' x i u := by
  match i, h with
  | 0, h => exact h
  | 1, h => exact h
  | 2, h => exact h
  | 3, h => exact h
  | _ + 4, h => exact IntsK.keep h hk hm
theorem CodeK.keep {K K' : Nat → Prop} {w w' : World} {v : Value} {c : List Ins} (h : CodeK K w v c) (hk : Keeps K w w') (hm : ∀ k, K k → K' k) : CodeK K' w' v c :=
  CellsK.keep h hk hm fun _ _ _ h => h.keep hk hm
def fncCell (K : Nat → Prop) (w : World) (x : Fnc) : Nat → Value → Prop
  | 0, u => u = .int .i64 x.ty
  | 1, u => IntsK K w u x.loc
  | _, u => CodeK K w u x.code
def fnc0 : Fnc := ⟨0, [], []⟩
def FunsK (K : Nat → Prop) (w : World) (v : Value) (l : List Fnc) : Prop := CellsK K w v l.length 3 fun j i u => fncCell K w (l.getD j fnc0) i u
theorem fncCell.keep {K K' : Nat → Prop} {w w' : World} {x : Fnc} {i : Nat} {u : Value} (h : fncCell K w x i u) (hk : Keeps K w w') (hm : ∀ k, K k → K' k) : fncCell K' w' x i u := by
  match i, h with
  | 0, h => exact h
  | 1, h => exact IntsK.keep h hk hm
  | _ + 2, h => exact CodeK.keep h hk hm
theorem FunsK.keep {K K' : Nat → Prop} {w w' : World} {v : Value} {l : List Fnc} (h : FunsK K w v l) (hk : Keeps K w w') (hm : ∀ k, K k → K' k) : FunsK K' w' v l :=
  CellsK.keep h hk hm fun _ _ _ h => h.keep hk hm
def impCell (x : ByteArray × ByteArray × Int) : Nat → Value → Prop
  | 0, u => u = .string x.1
  | 1, u => u = .string x.2.1
  | _, u => u = .int .i64 x.2.2
def ImpsK (K : Nat → Prop) (w : World) (v : Value) (l : List (ByteArray × ByteArray × Int)) : Prop := CellsK K w v l.length 3 fun j i u => impCell (l.getD j (ByteArray.empty, ByteArray.empty, 0)) i u
def memCell (x : Int × Int) : Nat → Value → Prop
  | 0, u => u = .int .i64 x.1
  | _, u => u = .int .i64 x.2
def MemsK (K : Nat → Prop) (w : World) (v : Value) (l : List (Int × Int)) : Prop := CellsK K w v l.length 2 fun j i u => memCell (l.getD j (0, 0)) i u
def globCell (x : Int × Bool × Int) : Nat → Value → Prop
  | 0, u => u = .int .i64 x.1
  | 1, u => u = .bool x.2.1
  | _, u => u = .int .u64 x.2.2
def GlobsK (K : Nat → Prop) (w : World) (v : Value) (l : List (Int × Bool × Int)) : Prop := CellsK K w v l.length 3 fun j i u => globCell (l.getD j (0, false, 0)) i u
def expCell (x : ByteArray × Int × Int) : Nat → Value → Prop
  | 0, u => u = .string x.1
  | 1, u => u = .int .i64 x.2.1
  | _, u => u = .int .i64 x.2.2
def ExpsK (K : Nat → Prop) (w : World) (v : Value) (l : List (ByteArray × Int × Int)) : Prop := CellsK K w v l.length 3 fun j i u => expCell (l.getD j (ByteArray.empty, 0, 0)) i u
def dat0 : Dat := ⟨false, 0, 0, []⟩
def datCell (K : Nat → Prop) (w : World) (x : Dat) : Nat → Value → Prop
  | 0, u => u = .bool x.act
  | 1, u => u = .int .i64 x.mem
  | 2, u => u = .int .i64 x.pos
  | _, u => BytesK K w u x.bytes
def DatasK (K : Nat → Prop) (w : World) (v : Value) (l : List Dat) : Prop := CellsK K w v l.length 4 fun j i u => datCell K w (l.getD j dat0) i u
theorem datCell.keep {K K' : Nat → Prop} {w w' : World} {x : Dat} {i : Nat} {u : Value} (h : datCell K w x i u) (hk : Keeps K w w') (hm : ∀ k, K k → K' k) : datCell K' w' x i u := by
  match i, h with
  | 0, h => exact h
  | 1, h => exact h
  | 2, h => exact h
  | _ + 3, h => exact BytesK.keep h hk hm
theorem DatasK.keep {K K' : Nat → Prop} {w w' : World} {v : Value} {l : List Dat} (h : DatasK K w v l) (hk : Keeps K w w') (hm : ∀ k, K k → K' k) : DatasK K' w' v l :=
  CellsK.keep h hk hm fun _ _ _ h => h.keep hk hm
def cusCell (K : Nat → Prop) (w : World) (x : ByteArray × List Nat) : Nat → Value → Prop
  | 0, u => u = .string x.1
  | _, u => BytesK K w u x.2
def CusK (K : Nat → Prop) (w : World) (v : Value) (l : List (ByteArray × List Nat)) : Prop := CellsK K w v l.length 2 fun j i u => cusCell K w (l.getD j (ByteArray.empty, [])) i u
theorem cusCell.keep {K K' : Nat → Prop} {w w' : World} {x : ByteArray × List Nat} {i : Nat} {u : Value} (h : cusCell K w x i u) (hk : Keeps K w w') (hm : ∀ k, K k → K' k) : cusCell K' w' x i u := by
  match i, h with
  | 0, h => exact h
  | _ + 1, h => exact BytesK.keep h hk hm
theorem CusK.keep {K K' : Nat → Prop} {w w' : World} {v : Value} {l : List (ByteArray × List Nat)} (h : CusK K w v l) (hk : Keeps K w w') (hm : ∀ k, K k → K' k) : CusK K' w' v l :=
  CellsK.keep h hk hm fun _ _ _ h => h.keep hk hm
/-- The eight fields of a module. -/
structure Mv where
  m0 : Value
  m1 : Value
  m2 : Value
  m3 : Value
  m4 : Value
  m5 : Value
  m6 : Value
  m7 : Value
def Mv.cells (v : Mv) : Array Value := #[v.m0, v.m1, v.m2, v.m3, v.m4, v.m5, v.m6, v.m7]
/-- A module in memory reads as m. -/
structure ModAt (K : Nat → Prop) (w : World) (v : Mv) (m : Mdl) : Prop where
  types : TypesK K w v.m0 m.types
  imps : ImpsK K w v.m1 m.imps
  funs : FunsK K w v.m2 m.funs
  mems : MemsK K w v.m3 m.mems
  globs : GlobsK K w v.m4 m.globs
  exps : ExpsK K w v.m5 m.exps
  datas : DatasK K w v.m6 m.datas
  cus : CusK K w v.m7 m.cus
theorem ModAt.keep {K K' : Nat → Prop} {w w' : World} {v : Mv} {m : Mdl} (h : ModAt K w v m) (hk : Keeps K w w') (hm : ∀ k, K k → K' k) : ModAt K' w' v m :=
  ⟨h.types.keep hk hm, h.imps.keep hk hm (fun _ _ _ h => h), h.funs.keep hk hm, h.mems.keep hk hm (fun _ _ _ h => h), h.globs.keep hk hm (fun _ _ _ h => h), h.exps.keep hk hm (fun _ _ _ h => h), h.datas.keep hk hm, h.cus.keep hk hm⟩
/-- A row of plain cells that the call owns, read. -/
theorem owns_cellsK {K : Nat → Prop} {w : World} {base size : Nat} {e : TypeId} {v : Value} {n : Nat} {xs : List Value} (h : w.ownsRow base e size v n xs) (f : Nat → Nat → Value → Prop) (hK : ∀ g, v.ownBlock = some g → K g) (hf : ∀ j i, j < n → i < size → ∃ u, xs[j * size + i]? = some u ∧ f j i u) : CellsK K w v n size f := by
  have hl := h.1
  rcases h.2 with ⟨rfl, rfl⟩ | ⟨g, cap, cur, rfl, h1, h2, h3, h4, h5, h6⟩
  · exact ⟨none, 0, rfl, Nat.le_refl _, Nat.zero_le _, fun _ => rfl, fun h => by omega⟩
  · refine ⟨_, cap, rfl, h3, h4, (fun h => by cases h), fun _ => ⟨g, 0, rfl, hK g rfl, fun j i hj hi => ?_⟩⟩
    obtain ⟨u, k1, k2⟩ := hf j i hj hi
    have hlt : j * size + i < n * size := by
      have : (j + 1) * size ≤ n * size := Nat.mul_le_mul_right size hj
      rw [Nat.succ_mul] at this; omega
    exact ⟨u, by rw [Nat.zero_add, h.cellAt _ hlt]; exact k1, k2⟩
end Go.Proofs.YtinljaobdnkifaaDoor
