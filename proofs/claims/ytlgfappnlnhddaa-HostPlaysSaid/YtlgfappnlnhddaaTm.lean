/-
  A region that draws its order, in one order: the next move by number.
-/
import Derived.Test.YtlgfappnlnhddaaProg
import Derived.OrdersHeld
import Derived.Deep.RegionHeld
namespace Go.Proofs.Ytlgfappnlnhddaa
open Go

section
variable {P : Program} {md : Region.Mode} {ops : Array Oper} {Q : Exit → Act → World → Prop} {S : World → Prop}
/-- One callee alone may come up. -/
theorem mR (i d : Nat) {o1 : Op} {o2 : TypeId} {o3 : String} {o4 : Array Edge} {o5 : Option (Nat × Bool)} {n : Nat} {l : Array Bool} {a : Act} {w : World} (ho : ops[i]? = some ⟨some d, o1, o2, o3, o4, o5⟩)
    (h : ∀ K : Act → World → Prop, Shut (∀ a w, S w → (S w → wpAnyH P md ops Q S n (l.setIfInBounds i true) a w) → K a w) → if Region.wanted ⟨some d, o1, o2, o3, o4, o5⟩ (yielded ops a.tmps) = true then Oper.wp P ⟨some d, o1, o2, o3, o4, o5⟩ a w K Q else K (a.put (some d) undef) w)
    (hr : Region.ready md ops l = [i] := by kernel_rfl) : wpAnyH P md ops Q S (n + 1) l a w := wpAnyH_ready hr (by simp) (AllReadyH.cons ho h AllReadyH.nil)
/-- The operation of number i, into temporary d: it is carried out. -/
theorem mT (i d : Nat) {o1 : Op} {o2 : TypeId} {o3 : String} {o4 : Array Edge} {o5 : Option (Nat × Bool)} {n : Nat} {v : Value} {l l2 : Array Bool} {a a2 : Act} {w : World} (hi : ops[i]? = some ⟨some d, o1, o2, o3, o4, o5⟩) (hS : S w)
    (h : wpAnyH P md ops Q S n l2 a2 w) (hw : Region.wanted ⟨some d, o1, o2, o3, o4, o5⟩ (yielded ops a.tmps) = true := by rfl) (hy : ∀ w', S w' → (execOp a.eval ⟨some d, o1, o2, o3, o4, o5⟩).run P w' = .ok (.value v) w' := by intro wS hSw; go_simp; try with_reducible rfl)
    (hl : l.setIfInBounds i true = l2 := by simp only [List.setIfInBounds_toArray, List.set] <;> rfl) (ha : a.put (some d) v = a2 := by simp only [Act.put, List.setIfInBounds_toArray, List.set] <;> rfl)
    (hs : Region.noSelect ops = true := by kernel_rfl) (hf : Region.free md ops l i = true := by kernel_rfl) (hr : (Region.ready md ops l).contains i = true := by kernel_rfl)
    (hQ : ∀ c a w, Q (.panic c) (a.put (some d) v) w → Q (.panic c) a w := by exact fun _ _ _ h => h) : wpAnyH P md ops Q S (n + 1) l a w := wpAnyH_take hi hs hf hr hQ (.inl ⟨hw, hy⟩) hS (by rw [hl, ha]; exact h)
/-- A guard passes it over. -/
theorem mN (i d : Nat) {o1 : Op} {o2 : TypeId} {o3 : String} {o4 : Array Edge} {o5 : Option (Nat × Bool)} {n : Nat} {l l2 : Array Bool} {a a2 : Act} {w : World} (hi : ops[i]? = some ⟨some d, o1, o2, o3, o4, o5⟩) (hS : S w)
    (h : wpAnyH P md ops Q S n l2 a2 w) (hw : Region.wanted ⟨some d, o1, o2, o3, o4, o5⟩ (yielded ops a.tmps) = false := by rfl)
    (hl : l.setIfInBounds i true = l2 := by simp only [List.setIfInBounds_toArray, List.set] <;> rfl) (ha : a.put (some d) undef = a2 := by simp only [Act.put, List.setIfInBounds_toArray, List.set] <;> rfl)
    (hs : Region.noSelect ops = true := by kernel_rfl) (hf : Region.free md ops l i = true := by kernel_rfl) (hr : (Region.ready md ops l).contains i = true := by kernel_rfl)
    (hQ : ∀ c a w, Q (.panic c) (a.put (some d) undef) w → Q (.panic c) a w := by exact fun _ _ _ h => h) : wpAnyH P md ops Q S (n + 1) l a w := wpAnyH_take hi hs hf hr hQ (.inr ⟨hw, rfl⟩) hS (by rw [hl, ha]; exact h)
end
theorem sA {α : Type} (l : List α) (i : Nat) (x : α) : l.toArray.setIfInBounds i x = (l.set i x).toArray := List.setIfInBounds_toArray ..
end Go.Proofs.Ytlgfappnlnhddaa
