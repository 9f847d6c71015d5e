/-
  Which blocks are open behind a row of instructions.
-/
import Derived.Below
namespace Go.Proofs.YtinljaobdnkifaaDoor

/-! ### Blocks in each other -/
/-- What is open behind an instruction: 1: an if without its else; 0: another block. -/
def nestStep (op : Int) (o : List Nat) : Option (List Nat) :=
  if op = 2 ∨ op = 3 then (if o.length < 60 then some (0 :: o) else none)
  else if op = 4 then (if o.length < 60 then some (1 :: o) else none)
  else if op = 5 then (match o with | 1 :: t => some (0 :: t) | _ => none)
  else if op = 11 then (match o with | _ :: t => some t | [] => none)
  else some o
def nestOf : List Int → List Nat → Option (List Nat)
  | [], o => some o
  | i :: l, o => (nestStep i o).bind (nestOf l)
theorem nestOf_append (a b : List Int) : ∀ o, nestOf (a ++ b) o = (nestOf a o).bind (nestOf b) := by
  induction a with
  | nil => intro o; rfl
  | cons i a ih =>
    intro o
    show (nestStep i o).bind (nestOf (a ++ b)) = ((nestStep i o).bind (nestOf a)).bind (nestOf b)
    cases nestStep i o with
    | none => rfl
    | some q => exact ih q
theorem nestOf_snoc (a : List Int) (i : Int) (o : List Nat) : nestOf (a ++ [i]) o = (nestOf a o).bind (nestStep i) := by
  rw [nestOf_append]
  congr 1
  funext q
  show (nestStep i q).bind some = nestStep i q
  cases nestStep i q <;> rfl
/-- Neither opens nor ends a block. -/
def plain (op : Int) : Prop := (op = 2 ∨ op = 3) = False ∧ (op = 4) = False ∧ (op = 5) = False ∧ (op = 11) = False
theorem plain_of {op : Int} (h : op ≠ 2 ∧ op ≠ 3 ∧ op ≠ 4 ∧ op ≠ 5 ∧ op ≠ 11) : plain op :=
  ⟨eq_false (by omega), eq_false (by omega), eq_false (by omega), eq_false (by omega)⟩
theorem nestStep_plain {op : Int} (h : plain op) (o : List Nat) : nestStep op o = some o := by
  obtain ⟨h1, h2, h3, h4⟩ := h
  unfold nestStep
  simp only [h1, h2, h3, h4, if_false]
end Go.Proofs.YtinljaobdnkifaaDoor
