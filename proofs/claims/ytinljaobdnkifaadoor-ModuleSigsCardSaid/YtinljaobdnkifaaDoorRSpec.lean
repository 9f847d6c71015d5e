/-
  What chapter 6 fixes of what is valid, as plain functions on modules as plain data, and what is true of them.
-/
import Derived.Test.YtinljaobdnkifaaDoorMd
import Derived.Test.YtinljaobdnkifaaDoorOSpec
import Derived.Test.YtinljaobdnkifaaDoorTnums
namespace Go.Proofs.YtinljaobdnkifaaDoor
open Go.RowKit

/-! ### Rows, thing by thing -/
theorem all_yes {α : Type} {p : α → Bool} {l : List α} {d : α} (h : ∀ j, j < l.length → p (l.getD j d) = true) : l.all p = true := by
  rw [List.all_eq_true]
  intro x hx
  obtain ⟨j, hj, rfl⟩ := List.mem_iff_getElem.1 hx
  have := h j hj
  rwa [List.getD_eq_getElem?_getD, List.getElem?_eq_getElem hj] at this
theorem all_no {α : Type} {p : α → Bool} {l : List α} {d : α} {j : Nat} (hj : j < l.length) (h : p (l.getD j d) = false) : l.all p = false := by
  rw [Bool.eq_false_iff]
  intro ha
  rw [List.all_eq_true] at ha
  have := ha _ (List.getElem_mem hj)
  rw [List.getD_eq_getElem?_getD, List.getElem?_eq_getElem hj] at h
  simp only [Option.getD_some] at h
  rw [this] at h; cases h
/-- The first k are so. -/
def AllTo {α : Type} (p : α → Bool) (l : List α) (d : α) (k : Nat) : Prop := ∀ j, j < k → p (l.getD j d) = true
theorem AllTo.zero {α : Type} (p : α → Bool) (l : List α) (d : α) : AllTo p l d 0 := fun _ h => absurd h (Nat.not_lt_zero _)
theorem AllTo.succ {α : Type} {p : α → Bool} {l : List α} {d : α} {k : Nat} (h : AllTo p l d k) (hk : p (l.getD k d) = true) : AllTo p l d (k + 1) := fun j hj => by
  rcases Nat.lt_or_ge j k with h1 | h1
  · exact h j h1
  · rw [show j = k by omega]; exact hk
theorem AllTo.done {α : Type} {p : α → Bool} {l : List α} {d : α} (h : AllTo p l d l.length) : l.all p = true := all_yes h

/-! ### What is valid -/
def inB (n lo hi : Int) : Bool := decide (lo ≤ n ∧ n ≤ hi)
def kindB (t : Int) : Bool := decide (t = 127 ∨ t = 126 ∨ t = 124)
def kindsB (l : List Int) (most : Int) : Bool := decide ((l.length : Int) ≤ most) && l.all kindB
def idxB (n : Int) : Bool := inB n 0 2147483647
def strB (s : ByteArray) : Bool := decide (s.size ≤ 64) && decide (0 ≤ cntI (nums s))
/-- Between which numbers A lies, up to which B and N, and how many labels there are. -/
def fieldsB (op : Int) : Int × Int × Int × Int × Int × Int :=
  if 2 ≤ op ∧ op ≤ 4 then (-4, 63, 0, 0, 0, 0)
  else if op = 12 ∨ op = 13 then (0, 64, 0, 0, 0, 0)
  else if op = 14 then (0, 0, 0, 0, 1, 17)
  else if op = 16 ∨ op = 18 then (0, 255, 0, 0, 0, 0)
  else if 32 ≤ op ∧ op ≤ 34 then (0, 255, 0, 0, 0, 0)
  else if op = 35 ∨ op = 36 then (0, 255, 0, 0, 0, 0)
  else if op = 63 ∨ op = 64 ∨ op = 64523 then (0, 3, 0, 0, 0, 0)
  else if op = 64520 then (0, 3, 15, 0, 0, 0)
  else if op = 64521 then (0, 15, 0, 0, 0, 0)
  else if op = 64522 then (0, 3, 3, 0, 0, 0)
  else if op = 65 then (0, 0, 0, 4294967295, 0, 0)
  else if op = 66 ∨ op = 68 then (0, 0, 0, 18446744073709551615, 0, 0)
  else if (accB op).2.2.2 then (0, 3, 0, 4294967295, 0, 0)
  else (0, 0, 0, 0, 0, 0)
def labB (n : Int) : Bool := inB n 0 64
def instB (x : Ins) : Bool :=
  knownB x.op && inB x.a (fieldsB x.op).1 (fieldsB x.op).2.1 && inB x.b 0 (fieldsB x.op).2.2.1 && decide (x.n ≤ (fieldsB x.op).2.2.2.1) && inB (x.l.length : Int) (fieldsB x.op).2.2.2.2.1 (fieldsB x.op).2.2.2.2.2 && x.l.all labB
def typB (t : List Int × List Int) : Bool := kindsB t.1 8 && kindsB t.2 8
def impB (i : ByteArray × ByteArray × Int) : Bool := strB i.1 && strB i.2.1 && idxB i.2.2
def codeB (c : List Ins) : Bool := decide (c.length ≤ 65536) && c.all instB
def fncB (f : Fnc) : Bool := idxB f.ty && kindsB f.loc 256 && codeB f.code
def memB (x : Int × Int) : Bool := decide (0 ≤ x.1) && decide (x.1 ≤ x.2) && decide (x.2 ≤ 512)
def globB (g : Int × Bool × Int) : Bool := kindB g.1 && !(decide (g.1 = 127) && decide (4294967295 < g.2.2))
def exOneB (e : ByteArray × Int × Int) : Bool := strB e.1 && idxB e.2.2 && decide (e.2.1 = 0 ∨ e.2.1 = 2 ∨ e.2.1 = 3)
def exD : ByteArray × Int × Int := (ByteArray.empty, 0, 0)
/-- The one at k is right, and its name is new. -/
def exAtB (l : List (ByteArray × Int × Int)) (k : Nat) : Bool := exOneB (l.getD k exD) && (List.range k).all fun j => decide (nums (l.getD j exD).1 ≠ nums (l.getD k exD).1)
def exsB (l : List (ByteArray × Int × Int)) : Bool := (List.range l.length).all (exAtB l)
def datB (d : Dat) : Bool := (if d.act then inB d.mem 0 3 && inB d.pos 0 2147483647 else inB d.mem 0 0 && inB d.pos 0 0) && decide (d.bytes.length ≤ 1048576)
def cusB (c : ByteArray × List Nat) : Bool := strB c.1 && decide (c.2.length ≤ 1048576)
def fitsB (m : Mdl) : Bool :=
  decide (m.types.length ≤ 64) && decide (m.imps.length + m.funs.length ≤ 256) && decide (m.mems.length ≤ 4) && decide (m.globs.length ≤ 256) && decide (m.datas.length ≤ 16) && decide (m.exps.length ≤ 256) && decide (m.cus.length ≤ 16)
def partsB (m : Mdl) : Bool := m.types.all typB && m.imps.all impB && m.funs.all fncB && m.mems.all memB && m.globs.all globB && exsB m.exps && m.datas.all datB && m.cus.all cusB
def rightB (m : Mdl) : Int := if fitsB m then if partsB m then 0 else 12 else 13

theorem range_yes {p : Nat → Bool} {n : Nat} (h : ∀ j, j < n → p j = true) : (List.range n).all p = true := by
  rw [List.all_eq_true]; intro x hx; exact h x (List.mem_range.1 hx)
theorem range_no {p : Nat → Bool} {n j : Nat} (hj : j < n) (h : p j = false) : (List.range n).all p = false := by
  rw [Bool.eq_false_iff]; intro ha; rw [List.all_eq_true] at ha; rw [ha j (List.mem_range.2 hj)] at h; cases h
end Go.Proofs.YtinljaobdnkifaaDoor
