/-
  The moves of Last, by number.
-/
import Derived.Test.YtlgfappnlnhddaaLast
import Derived.Test.YtlgfappnlnhddaaTm
namespace Go.Proofs.Ytlgfappnlnhddaa
open Go.RowKit

section
variable {P : Program} {md : Region.Mode} {ops : Array Oper} {Q : Exit → Act → World → Prop} {S : World → Prop} {X : Nat}
/-- The operation of number i, into temporary d: it is carried out. -/
theorem Rest.tk (i d : Nat) {o1 : Op} {o2 : TypeId} {o3 : String} {o4 : Array Edge} {o5 : Option (Nat × Bool)} {n : Nat} {v : Value} {L l2 : Array Bool} {a a2 : Act} {w : World} (hi : ops[i]? = some ⟨some d, o1, o2, o3, o4, o5⟩) (hS : S w)
    (h : Rest P md ops Q S X n l2 a2 w) (hw : Region.wanted ⟨some d, o1, o2, o3, o4, o5⟩ (yielded ops a.tmps) = true := by rfl) (hy : ∀ w', S w' → (execOp a.eval ⟨some d, o1, o2, o3, o4, o5⟩).run P w' = .ok (.value v) w' := by intro w' hSw; go_simp; try with_reducible rfl)
    (hl : L.setIfInBounds i true = l2 := by simp only [List.setIfInBounds_toArray, List.set] <;> rfl) (ha : a.put (some d) v = a2 := by simp only [Act.put, List.setIfInBounds_toArray, List.set] <;> rfl)
    (hs : Region.noSelect ops = true := by kernel_rfl) (hf : Region.free md ops L i = true := by kernel_rfl) (hr : (Region.ready md ops L).contains i = true := by kernel_rfl) (hX : waits md ops X i = true := by kernel_rfl)
    (hQ : ∀ c a w, Q (.panic c) (a.put (some d) v) w → Q (.panic c) a w := by exact fun _ _ _ h => h) : Rest P md ops Q S X (n + 1) L a w := Rest.take hi hs hf hr hX hQ (.inl ⟨hw, hy⟩) hS (by rw [hl, ha]; exact h)
/-- One alone may come up: the one of number i, into temporary d. -/
theorem Rest.om (i d : Nat) {o1 : Op} {o2 : TypeId} {o3 : String} {o4 : Array Edge} {o5 : Option (Nat × Bool)} {n : Nat} {L : Array Bool} {a : Act} {w : World} (ho : ops[i]? = some ⟨some d, o1, o2, o3, o4, o5⟩)
    (h : ∀ K : Act → World → Prop, Hid (∀ a w, (i = X ∨ S w) → Rest P md ops Q S X n (L.setIfInBounds i true) a w → K a w) → if Region.wanted ⟨some d, o1, o2, o3, o4, o5⟩ (yielded ops a.tmps) = true then Oper.wp P ⟨some d, o1, o2, o3, o4, o5⟩ a w K Q else K (a.put (some d) undef) w)
    (hr : Region.ready md ops L = [i] := by kernel_rfl) : Rest P md ops Q S X (n + 1) L a w := .one hr (.mk ho h)
theorem Rest.on (i : Nat) {o1 : Op} {o2 : TypeId} {o3 : String} {o4 : Array Edge} {o5 : Option (Nat × Bool)} {n : Nat} {L : Array Bool} {a : Act} {w : World} (ho : ops[i]? = some ⟨none, o1, o2, o3, o4, o5⟩)
    (h : ∀ K : Act → World → Prop, Hid (∀ a w, (i = X ∨ S w) → Rest P md ops Q S X n (L.setIfInBounds i true) a w → K a w) → if Region.wanted ⟨none, o1, o2, o3, o4, o5⟩ (yielded ops a.tmps) = true then Oper.wp P ⟨none, o1, o2, o3, o4, o5⟩ a w K Q else K (a.put none undef) w)
    (hr : Region.ready md ops L = [i] := by kernel_rfl) : Rest P md ops Q S X (n + 1) L a w := .one hr (.mk ho h)
theorem Comes.m (d : Nat) {o1 : Op} {o2 : TypeId} {o3 : String} {o4 : Array Edge} {o5 : Option (Nat × Bool)} {i n : Nat} {L : Array Bool} {a : Act} {w : World} (ho : ops[i]? = some ⟨some d, o1, o2, o3, o4, o5⟩)
    (h : ∀ K : Act → World → Prop, Hid (∀ a w, (i = X ∨ S w) → Rest P md ops Q S X n (L.setIfInBounds i true) a w → K a w) → if Region.wanted ⟨some d, o1, o2, o3, o4, o5⟩ (yielded ops a.tmps) = true then Oper.wp P ⟨some d, o1, o2, o3, o4, o5⟩ a w K Q else K (a.put (some d) undef) w) : Comes P md ops Q S X n L a w i := .mk ho h
theorem Comes.n {o1 : Op} {o2 : TypeId} {o3 : String} {o4 : Array Edge} {o5 : Option (Nat × Bool)} {i n : Nat} {L : Array Bool} {a : Act} {w : World} (ho : ops[i]? = some ⟨none, o1, o2, o3, o4, o5⟩)
    (h : ∀ K : Act → World → Prop, Hid (∀ a w, (i = X ∨ S w) → Rest P md ops Q S X n (L.setIfInBounds i true) a w → K a w) → if Region.wanted ⟨none, o1, o2, o3, o4, o5⟩ (yielded ops a.tmps) = true then Oper.wp P ⟨none, o1, o2, o3, o4, o5⟩ a w K Q else K (a.put none undef) w) : Comes P md ops Q S X n L a w i := .mk ho h
end
end Go.Proofs.Ytlgfappnlnhddaa
