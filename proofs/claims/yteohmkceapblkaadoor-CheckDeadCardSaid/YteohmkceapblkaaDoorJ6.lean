/- A part of the proof. -/
import Derived.Test.YteohmkceapblkaaDoorJ4
import Derived.Deep.RegionLaw
import Derived.BigRegion
import Derived.Deep.RegionHeld3
import Derived.Deep.CutRange
namespace Go.Proofs.YteohmkceapblkaaDoor
section
open Go.RowKit
theorem list_eq {α : Type} {a b : List α} {d : α} (hl : a.length = b.length) (h : ∀ j, j < a.length → a.getD j d = b.getD j d) : a = b := by
  apply List.ext_getElem hl
  intro j h1 h2
  have h3 := h j h1
  rwa [List.getD_eq_getElem?_getD, List.getD_eq_getElem?_getD, List.getElem?_eq_getElem h1, List.getElem?_eq_getElem h2] at h3
def EqTo {α : Type} (a b : List α) (d : α) (k : Nat) : Prop := ∀ j, j < k → a.getD j d = b.getD j d
theorem EqTo.zero {α : Type} (a b : List α) (d : α) : EqTo a b d 0 := fun _ h => absurd h (Nat.not_lt_zero _)
theorem EqTo.succ {α : Type} {a b : List α} {d : α} {k : Nat} (h : EqTo a b d k) (hk : a.getD k d = b.getD k d) : EqTo a b d (k + 1) := fun j hj => by
  rcases Nat.lt_or_ge j k with h1 | h1
  · exact h j h1
  · rw [show j = k by omega]; exact hk
theorem EqTo.done {α : Type} {a b : List α} {d : α} (hl : a.length = b.length) (h : EqTo a b d a.length) : a = b := list_eq hl h
theorem ne_at {α : Type} {a b : List α} {d : α} {j : Nat} (h : a.getD j d ≠ b.getD j d) : a ≠ b := fun e => h (e ▸ rfl)
theorem ne_len {α : Type} {a b : List α} (h : a.length ≠ b.length) : a ≠ b := fun e => h (e ▸ rfl)
def typeB (m : Mdl) (k : Int) : Option (List Int × List Int) := if 0 ≤ k ∧ k < m.types.length then some (m.types.getD k.toNat ([], [])) else none
def blockB (m : Mdl) (a : Int) : Option (List Int × List Int) :=
  if a = -1 then some ([], []) else if a = -2 then some ([], [127]) else if a = -3 then some ([], [126]) else if a = -4 then some ([], [124]) else typeB m a
def fsigB (m : Mdl) (f : Int) : Option (List Int × List Int) :=
  if f < 0 ∨ (m.imps.length : Int) + m.funs.length ≤ f then none
  else if f < m.imps.length then typeB m (m.imps.getD f.toNat (ByteArray.empty, ByteArray.empty, 0)).2.2
  else typeB m (m.funs.getD (f - m.imps.length).toNat fnc0).ty
def locB (m : Mdl) (f : Int) : List Int :=
  match fsigB m f with
  | none => []
  | some t => if f < m.imps.length then [] else t.1 ++ (m.funs.getD (f - m.imps.length).toNat fnc0).loc
def TypPost (K : Nat → Prop) (t : Option (List Int × List Int)) (w : World) (e : Ending) (w' : World) : Prop :=
  ∃ p r : Value, e = .returned (.tuple #[.agg #[p, r], .bool t.isSome]) ∧ IntsK (fun k => K k ∨ (w.heap.size ≤ k ∧ k < w'.heap.size)) w' p (t.getD ([], [])).1 ∧ IntsK (fun k => K k ∨ (w.heap.size ≤ k ∧ k < w'.heap.size)) w' r (t.getD ([], [])).2 ∧ Below w.heap.size w w'
set_option maxRecDepth 100000 in
set_option maxHeartbeats 1000000 in
theorem equal_is (K : Nat → Prop) (w : World) (v1 v2 : Value) (q1 q2 : List Int) (h1 : IntsK K w v1 q1) (h2 : IntsK K w v2 q2) : Calls Tryd.prog 57 #[v1, v2] w (BoolPost (decide (q1 = q2)) w) := by
  obtain ⟨A1, c1, hv1, hm1, _⟩ := h1.form
  obtain ⟨A2, c2, hv2, _, _⟩ := h2.form
  unfold maxLen at hm1
  rw [hv1] at h1 ⊢
  rw [hv2] at h2 ⊢
  have H1 := Lib.hid h1
  have H2 := Lib.hid h2
  clear h1 h2 hv1 hv2
  generalize hQ1 : q1.length = n at *
  generalize hQ2 : q2.length = m at *
  have HQ1 := Lib.hid hQ1
  have HQ2 := Lib.hid hQ2
  clear hQ1 hQ2
  by_cases hnm : n = m
  · subst hnm
    go_enter Tryd.func57, Tryd.ntmps57
    go_wp2_with fail
    go_loopw [13] (fun i wr => ∃ k a : Nat, k ≤ n ∧ i = .int .i64 (k : Int) ∧ wr = w.drewN a ∧ Hid (EqTo q1 q2 0 k)) (fun i _ => n - (intOf i).toNat)
    case atStart => exact ⟨0, 0, Nat.zero_le _, rfl, rfl, Lib.hid (EqTo.zero _ _ _)⟩
    case round =>
      obtain ⟨k, a, hk, rfl, rfl, HE⟩ := hrel
      by_cases hlt : k < n
      · have hkn : (0 : Int) ≤ k := Int.natCast_nonneg _
        have hd : decide ((k : Int) < (n : Int)) = true := by simp; omega
        obtain ⟨g1, o1, c3, he, _, _⟩ := H1.out.some_ (by rw [HQ1.out]; omega)
        simp only [Value.slice.injEq] at he
        obtain ⟨rfl, -, -⟩ := he
        obtain ⟨g2, o2, c4, he, _, _⟩ := H2.out.some_ (by rw [HQ2.out]; omega)
        simp only [Value.slice.injEq] at he
        obtain ⟨rfl, -, -⟩ := he
        have k1 := H1.out.at_ k hlt
        have k2 := H2.out.at_ k hlt
        have HY := Lib.hid (fun (h : q1.getD k 0 = q2.getD k 0) => HE.out.succ h)
        have HN := Lib.hid (fun (h : q1.getD k 0 ≠ q2.getD k 0) => ne_at h)
        generalize q1.getD k 0 = y at k1 HY HN
        generalize q2.getD k 0 = z at k2 HY HN
        go_wp2_with fail
        go_quiet (fail)
        by_cases hyz : y = z
        · have hd2 : (y != z) = false := by simpa using hyz
          have HY2 := Lib.hid (HY.out hyz)
          clear HY HN hyz
          go_wp2
          go_roundw
          case rel => exact ⟨k + 1, _, by omega, by go_num, rfl, HY2⟩
          case measure => simp [intOf]; omega
        · have hd2 : (y != z) = true := by simpa using hyz
          have HN2 := Lib.hid (HN.out hyz)
          clear HY HN hyz
          go_wp2
          go_ret
          exact ⟨ret_bool (by rw [decide_eq_false HN2.out]), below_drewN (below_drewN (Below.refl _ _) _) _⟩
      · have hd : decide ((k : Int) < (n : Int)) = false := by simp; omega
        have HD := Lib.hid (EqTo.done (d := (0 : Int)) (HQ1.out.trans HQ2.out.symm) (show EqTo q1 q2 0 q1.length by rw [HQ1.out, show n = k by omega]; exact HE.out))
        go_wp2
        go_ret
        exact ⟨ret_bool (by rw [decide_eq_true HD.out]), below_drewN (Below.refl _ _) _⟩
  · have hd : ((n : Int) != (m : Int)) = true := by simp; omega
    have HN : Hid (q1 ≠ q2) := Lib.hid (ne_len (by rw [HQ1.out, HQ2.out]; exact hnm))
    go_enter Tryd.func57, Tryd.ntmps57
    go_wp2
    go_ret
    exact ⟨ret_bool (by rw [decide_eq_false HN.out]), Below.refl _ _⟩
end
section
open Go.RowKit
theorem TypesK.at_ {K : Nat → Prop} {w : World} {g o m c : Nat} {ts : List (List Int × List Int)} (h : TypesK K w (.slice (some ⟨g, o, none⟩) m c) ts) (j : Nat) (hj : j < ts.length) :
    ∃ p r, w.cell? ⟨g, o + j * 2, none⟩ = some p ∧ w.cell? ⟨g, o + j * 2 + 1, none⟩ = some r ∧ IntsK K w p (ts.getD j ([], [])).1 ∧ IntsK K w r (ts.getD j ([], [])).2 := by
  obtain ⟨p, h1, h2⟩ := CellsK.at_ h j 0 hj (by omega)
  obtain ⟨r, h3, h4⟩ := CellsK.at_ h j 1 hj (by omega)
  exact ⟨p, r, h1, h3, h2, h4⟩
theorem cell_two {w : World} {p : Addr} {u : Value} (h : w.cell? p = some u) (a b : Obj) : ((w.alloc a).alloc b).cell? p = some u := by
  have hp := World.block_lt_of_cell? w p h
  rw [World.cell?_alloc_lt _ _ _ (by simp; omega), World.cell?_alloc_lt _ _ _ hp, h]
end
section
open Go.RowKit
def LocPost (l : List Int) (w : World) (e : Ending) (w' : World) : Prop := ∃ v, e = .returned v ∧ IntsK (fun k => w.heap.size ≤ k ∧ k < w'.heap.size) w' v l ∧ Below w.heap.size w w'
theorem owns_new {w w' : World} {base : Nat} {e : TypeId} {v : Value} {l : List Int} {n : Nat} {xs : List Value} (h : w'.ownsRow base e 1 v n xs) (hn : n = l.length) (hx : xs = l.map (Value.int .i64)) (hl : l.length ≤ 1000000) (hK : ∀ g, v.ownBlock = some g → w.heap.size ≤ g) : IntsK (fun k => w.heap.size ≤ k ∧ k < w'.heap.size) w' v l := by
  subst hn hx
  rcases h.2 with ⟨rfl, h0⟩ | ⟨g, cap, cur, rfl, _⟩
  · obtain rfl : l = [] := List.eq_nil_of_length_eq_zero h0
    exact IntsK.nil _ _
  · refine ⟨_, cap, rfl, by unfold maxLen; omega, (fun h => by cases h), fun _ => ⟨g, 0, rfl, ⟨hK g rfl, (h.lt g rfl).2⟩, fun j hj => ?_⟩⟩
    rw [Nat.zero_add, h.cellAt j (by rw [Nat.mul_one]; exact hj)]
    simp [hj]
end
end Go.Proofs.YteohmkceapblkaaDoor
