/-
  Contracts of the document's ints, Types; of Same and slices.Equal over ints; types of blocks and functions as plain data.
-/
import Derived.Test.YtinljaobdnkifaaDoorMd
import Derived.Test.YtinljaobdnkifaaDoorBase
import Derived.BigQuiet
import Derived.Deep.QuietTactic
namespace Go.Proofs.YtinljaobdnkifaaDoor
open Go.RowKit

/-! ### Lists, thing by thing -/
theorem list_eq {α : Type} {a b : List α} {d : α} (hl : a.length = b.length) (h : ∀ j, j < a.length → a.getD j d = b.getD j d) : a = b := by
  apply List.ext_getElem hl
  intro j h1 h2
  have h3 := h j h1
  rwa [List.getD_eq_getElem?_getD, List.getD_eq_getElem?_getD, List.getElem?_eq_getElem h1, List.getElem?_eq_getElem h2] at h3
/-- The first k are the same. -/
def EqTo {α : Type} (a b : List α) (d : α) (k : Nat) : Prop := ∀ j, j < k → a.getD j d = b.getD j d
theorem EqTo.zero {α : Type} (a b : List α) (d : α) : EqTo a b d 0 := fun _ h => absurd h (Nat.not_lt_zero _)
theorem EqTo.succ {α : Type} {a b : List α} {d : α} {k : Nat} (h : EqTo a b d k) (hk : a.getD k d = b.getD k d) : EqTo a b d (k + 1) := fun j hj => by
  rcases Nat.lt_or_ge j k with h1 | h1
  · exact h j h1
  · rw [show j = k by omega]; exact hk
theorem EqTo.done {α : Type} {a b : List α} {d : α} (hl : a.length = b.length) (h : EqTo a b d a.length) : a = b := list_eq hl h
theorem ne_at {α : Type} {a b : List α} {d : α} {j : Nat} (h : a.getD j d ≠ b.getD j d) : a ≠ b := fun e => h (e ▸ rfl)
theorem ne_len {α : Type} {a b : List α} (h : a.length ≠ b.length) : a ≠ b := fun e => h (e ▸ rfl)

/-! ### Types, functions -/
/-- The type at k, if there is one. -/
def typeB (m : Mdl) (k : Int) : Option (List Int × List Int) := if 0 ≤ k ∧ k < m.types.length then some (m.types.getD k.toNat ([], [])) else none
def blockB (m : Mdl) (a : Int) : Option (List Int × List Int) :=
  if a = -1 then some ([], []) else if a = -2 then some ([], [127]) else if a = -3 then some ([], [126]) else if a = -4 then some ([], [124]) else typeB m a
def fsigB (m : Mdl) (f : Int) : Option (List Int × List Int) :=
  if f < 0 ∨ (m.imps.length : Int) + m.funs.length ≤ f then none
  else if f < m.imps.length then typeB m (m.imps.getD f.toNat (ByteArray.empty, ByteArray.empty, 0)).2.2
  else typeB m (m.funs.getD (f - m.imps.length).toNat fnc0).ty
def locB (m : Mdl) (f : Int) : List Int :=
  match fsigB m f with
  | none => []
  | some t => if f < m.imps.length then [] else t.1 ++ (m.funs.getD (f - m.imps.length).toNat fnc0).loc
/-- A type and a bool come back: lists in new blocks or in K; the world has at most new blocks. -/
def TypPost (K : Nat → Prop) (t : Option (List Int × List Int)) (w : World) (e : Ending) (w' : World) : Prop :=
  ∃ p r : Value, e = .returned (.tuple #[.agg #[p, r], .bool t.isSome]) ∧ IntsK (fun k => K k ∨ (w.heap.size ≤ k ∧ k < w'.heap.size)) w' p (t.getD ([], [])).1 ∧ IntsK (fun k => K k ∨ (w.heap.size ≤ k ∧ k < w'.heap.size)) w' r (t.getD ([], [])).2 ∧ Below w.heap.size w w'

set_option maxRecDepth 100000 in
set_option maxHeartbeats 1000000 in
theorem rints_is (K : Nat → Prop) (w : World) (v1 v2 : Value) (q1 q2 : List Int) (h1 : IntsK K w v1 q1) (h2 : IntsK K w v2 q2) : Calls Tryd.prog 19 #[v1, v2] w (BoolPost (decide (q1 = q2)) w) := by
  obtain ⟨A1, c1, hv1, hm1, _⟩ := h1.form
  obtain ⟨A2, c2, hv2, _, _⟩ := h2.form
  unfold maxLen at hm1
  rw [hv1] at h1 ⊢
  rw [hv2] at h2 ⊢
  have H1 := Lib.hid h1
  have H2 := Lib.hid h2
  clear h1 h2 hv1 hv2
  generalize hQ1 : q1.length = n at *
  generalize hQ2 : q2.length = m at *
  have HQ1 := Lib.hid hQ1
  have HQ2 := Lib.hid hQ2
  clear hQ1 hQ2
  by_cases hnm : n = m
  · subst hnm
    go_enter Tryd.func19, Tryd.ntmps19
    go_wp2_with fail
    go_loopw [5] (fun i wr => ∃ k a : Nat, k ≤ n ∧ i = .int .i64 (k : Int) ∧ wr = w.drewN a ∧ Hid (EqTo q1 q2 0 k)) (fun i _ => n - (intOf i).toNat)
    case atStart => exact ⟨0, 0, Nat.zero_le _, rfl, rfl, Lib.hid (EqTo.zero _ _ _)⟩
    case round =>
      obtain ⟨k, a, hk, rfl, rfl, HE⟩ := hrel
      by_cases hlt : k < n
      · have hkn : (0 : Int) ≤ k := Int.natCast_nonneg _
        have hd : decide ((k : Int) < (n : Int)) = true := by simp; omega
        obtain ⟨g1, o1, c3, he, _, _⟩ := H1.out.some_ (by rw [HQ1.out]; omega)
        simp only [Value.slice.injEq] at he
        obtain ⟨rfl, -, -⟩ := he
        obtain ⟨g2, o2, c4, he, _, _⟩ := H2.out.some_ (by rw [HQ2.out]; omega)
        simp only [Value.slice.injEq] at he
        obtain ⟨rfl, -, -⟩ := he
        have k1 := H1.out.at_ k hlt
        have k2 := H2.out.at_ k hlt
        have HY := Lib.hid (fun (h : q1.getD k 0 = q2.getD k 0) => HE.out.succ h)
        have HN := Lib.hid (fun (h : q1.getD k 0 ≠ q2.getD k 0) => ne_at h)
        generalize q1.getD k 0 = y at k1 HY HN
        generalize q2.getD k 0 = z at k2 HY HN
        go_wp2_with fail
        go_quiet (fail)
        by_cases hyz : y = z
        · have hd2 : (y != z) = false := by simpa using hyz
          have HY2 := Lib.hid (HY.out hyz)
          clear HY HN hyz
          go_wp2
          go_roundw
          case rel => exact ⟨k + 1, _, by omega, by go_num, rfl, HY2⟩
          case measure => simp [intOf]; omega
        · have hd2 : (y != z) = true := by simpa using hyz
          have HN2 := Lib.hid (HN.out hyz)
          clear HY HN hyz
          go_wp2
          go_ret
          exact ⟨ret_bool (by rw [decide_eq_false HN2.out]), below_drewN (below_drewN (Below.refl _ _) _) _⟩
      · have hd : decide ((k : Int) < (n : Int)) = false := by simp; omega
        have HD := Lib.hid (EqTo.done (d := (0 : Int)) (HQ1.out.trans HQ2.out.symm) (show EqTo q1 q2 0 q1.length by rw [HQ1.out, show n = k by omega]; exact HE.out))
        go_wp2
        go_ret
        exact ⟨ret_bool (by rw [decide_eq_true HD.out]), below_drewN (Below.refl _ _) _⟩
  · have hd : ((n : Int) != (m : Int)) = true := by simp; omega
    have HN : Hid (q1 ≠ q2) := Lib.hid (ne_len (by rw [HQ1.out, HQ2.out]; exact hnm))
    go_enter Tryd.func19, Tryd.ntmps19
    go_wp2
    go_ret
    exact ⟨ret_bool (by rw [decide_eq_false HN.out]), Below.refl _ _⟩

set_option maxRecDepth 100000 in
set_option maxHeartbeats 1000000 in
theorem bsame_is (K : Nat → Prop) (w : World) (v1 v2 : Value) (q1 q2 : List Int) (h1 : IntsK K w v1 q1) (h2 : IntsK K w v2 q2) : Calls Tryd.prog 8 #[v1, v2] w (BoolPost (decide (q1 = q2)) w) := by
  obtain ⟨A1, c1, hv1, hm1, _⟩ := h1.form
  obtain ⟨A2, c2, hv2, _, _⟩ := h2.form
  unfold maxLen at hm1
  rw [hv1] at h1 ⊢
  rw [hv2] at h2 ⊢
  have H1 := Lib.hid h1
  have H2 := Lib.hid h2
  clear h1 h2 hv1 hv2
  generalize hQ1 : q1.length = n at *
  generalize hQ2 : q2.length = m at *
  have HQ1 := Lib.hid hQ1
  have HQ2 := Lib.hid hQ2
  clear hQ1 hQ2
  by_cases hnm : n = m
  · subst hnm
    go_enter Tryd.func8, Tryd.ntmps8
    go_wp2_with fail
    go_loopw [5] (fun i wr => ∃ k a : Nat, k ≤ n ∧ i = .int .i64 (k : Int) ∧ wr = w.drewN a ∧ Hid (EqTo q1 q2 0 k)) (fun i _ => n - (intOf i).toNat)
    case atStart => exact ⟨0, 0, Nat.zero_le _, rfl, rfl, Lib.hid (EqTo.zero _ _ _)⟩
    case round =>
      obtain ⟨k, a, hk, rfl, rfl, HE⟩ := hrel
      by_cases hlt : k < n
      · have hkn : (0 : Int) ≤ k := Int.natCast_nonneg _
        have hd : decide ((k : Int) < (n : Int)) = true := by simp; omega
        obtain ⟨g1, o1, c3, he, _, _⟩ := H1.out.some_ (by rw [HQ1.out]; omega)
        simp only [Value.slice.injEq] at he
        obtain ⟨rfl, -, -⟩ := he
        obtain ⟨g2, o2, c4, he, _, _⟩ := H2.out.some_ (by rw [HQ2.out]; omega)
        simp only [Value.slice.injEq] at he
        obtain ⟨rfl, -, -⟩ := he
        have k1 := H1.out.at_ k hlt
        have k2 := H2.out.at_ k hlt
        have HY := Lib.hid (fun (h : q1.getD k 0 = q2.getD k 0) => HE.out.succ h)
        have HN := Lib.hid (fun (h : q1.getD k 0 ≠ q2.getD k 0) => ne_at h)
        generalize q1.getD k 0 = y at k1 HY HN
        generalize q2.getD k 0 = z at k2 HY HN
        go_wp2_with fail
        go_quiet (fail)
        by_cases hyz : y = z
        · have hd2 : (y != z) = false := by simpa using hyz
          have HY2 := Lib.hid (HY.out hyz)
          clear HY HN hyz
          go_wp2
          go_roundw
          case rel => exact ⟨k + 1, _, by omega, by go_num, rfl, HY2⟩
          case measure => simp [intOf]; omega
        · have hd2 : (y != z) = true := by simpa using hyz
          have HN2 := Lib.hid (HN.out hyz)
          clear HY HN hyz
          go_wp2
          go_ret
          exact ⟨ret_bool (by rw [decide_eq_false HN2.out]), below_drewN (below_drewN (Below.refl _ _) _) _⟩
      · have hd : decide ((k : Int) < (n : Int)) = false := by simp; omega
        have HD := Lib.hid (EqTo.done (d := (0 : Int)) (HQ1.out.trans HQ2.out.symm) (show EqTo q1 q2 0 q1.length by rw [HQ1.out, show n = k by omega]; exact HE.out))
        go_wp2
        go_ret
        exact ⟨ret_bool (by rw [decide_eq_true HD.out]), below_drewN (Below.refl _ _) _⟩
  · have hd : ((n : Int) != (m : Int)) = true := by simp; omega
    have HN : Hid (q1 ≠ q2) := Lib.hid (ne_len (by rw [HQ1.out, HQ2.out]; exact hnm))
    go_enter Tryd.func8, Tryd.ntmps8
    go_wp2
    go_ret
    exact ⟨ret_bool (by rw [decide_eq_false HN.out]), Below.refl _ _⟩

set_option maxRecDepth 100000 in
set_option maxHeartbeats 1000000 in
theorem equal_is (K : Nat → Prop) (w : World) (v1 v2 : Value) (q1 q2 : List Int) (h1 : IntsK K w v1 q1) (h2 : IntsK K w v2 q2) : Calls Tryd.prog 74 #[v1, v2] w (BoolPost (decide (q1 = q2)) w) := by
  obtain ⟨A1, c1, hv1, hm1, _⟩ := h1.form
  obtain ⟨A2, c2, hv2, _, _⟩ := h2.form
  unfold maxLen at hm1
  rw [hv1] at h1 ⊢
  rw [hv2] at h2 ⊢
  have H1 := Lib.hid h1
  have H2 := Lib.hid h2
  clear h1 h2 hv1 hv2
  generalize hQ1 : q1.length = n at *
  generalize hQ2 : q2.length = m at *
  have HQ1 := Lib.hid hQ1
  have HQ2 := Lib.hid hQ2
  clear hQ1 hQ2
  by_cases hnm : n = m
  · subst hnm
    go_enter Tryd.func74, Tryd.ntmps74
    go_wp2_with fail
    go_loopw [13] (fun i wr => ∃ k a : Nat, k ≤ n ∧ i = .int .i64 (k : Int) ∧ wr = w.drewN a ∧ Hid (EqTo q1 q2 0 k)) (fun i _ => n - (intOf i).toNat)
    case atStart => exact ⟨0, 0, Nat.zero_le _, rfl, rfl, Lib.hid (EqTo.zero _ _ _)⟩
    case round =>
      obtain ⟨k, a, hk, rfl, rfl, HE⟩ := hrel
      by_cases hlt : k < n
      · have hkn : (0 : Int) ≤ k := Int.natCast_nonneg _
        have hd : decide ((k : Int) < (n : Int)) = true := by simp; omega
        obtain ⟨g1, o1, c3, he, _, _⟩ := H1.out.some_ (by rw [HQ1.out]; omega)
        simp only [Value.slice.injEq] at he
        obtain ⟨rfl, -, -⟩ := he
        obtain ⟨g2, o2, c4, he, _, _⟩ := H2.out.some_ (by rw [HQ2.out]; omega)
        simp only [Value.slice.injEq] at he
        obtain ⟨rfl, -, -⟩ := he
        have k1 := H1.out.at_ k hlt
        have k2 := H2.out.at_ k hlt
        have HY := Lib.hid (fun (h : q1.getD k 0 = q2.getD k 0) => HE.out.succ h)
        have HN := Lib.hid (fun (h : q1.getD k 0 ≠ q2.getD k 0) => ne_at h)
        generalize q1.getD k 0 = y at k1 HY HN
        generalize q2.getD k 0 = z at k2 HY HN
        go_wp2_with fail
        go_quiet (fail)
        by_cases hyz : y = z
        · have hd2 : (y != z) = false := by simpa using hyz
          have HY2 := Lib.hid (HY.out hyz)
          clear HY HN hyz
          go_wp2
          go_roundw
          case rel => exact ⟨k + 1, _, by omega, by go_num, rfl, HY2⟩
          case measure => simp [intOf]; omega
        · have hd2 : (y != z) = true := by simpa using hyz
          have HN2 := Lib.hid (HN.out hyz)
          clear HY HN hyz
          go_wp2
          go_ret
          exact ⟨ret_bool (by rw [decide_eq_false HN2.out]), below_drewN (below_drewN (Below.refl _ _) _) _⟩
      · have hd : decide ((k : Int) < (n : Int)) = false := by simp; omega
        have HD := Lib.hid (EqTo.done (d := (0 : Int)) (HQ1.out.trans HQ2.out.symm) (show EqTo q1 q2 0 q1.length by rw [HQ1.out, show n = k by omega]; exact HE.out))
        go_wp2
        go_ret
        exact ⟨ret_bool (by rw [decide_eq_true HD.out]), below_drewN (Below.refl _ _) _⟩
  · have hd : ((n : Int) != (m : Int)) = true := by simp; omega
    have HN : Hid (q1 ≠ q2) := Lib.hid (ne_len (by rw [HQ1.out, HQ2.out]; exact hnm))
    go_enter Tryd.func74, Tryd.ntmps74
    go_wp2
    go_ret
    exact ⟨ret_bool (by rw [decide_eq_false HN.out]), Below.refl _ _⟩

set_option maxRecDepth 100000 in
set_option maxHeartbeats 1000000 in
theorem rtypes_is (w : World) (p1 r1 p2 r2 : Value) (a1 b1 a2 b2 : List Int) (hp1 : IntsK (fun k => k < w.heap.size) w p1 a1) (hr1 : IntsK (fun k => k < w.heap.size) w r1 b1) (hp2 : IntsK (fun k => k < w.heap.size) w p2 a2) (hr2 : IntsK (fun k => k < w.heap.size) w r2 b2) :
    Calls Tryd.prog 6 #[.agg #[p1, r1], .agg #[p2, r2]] w (BoolPost (decide (a1 = a2 ∧ b1 = b2)) w) := by
  have HA := Lib.hid (fun wz (hb : Below w.heap.size w wz) => rints_is (fun k => k < wz.heap.size) wz p1 p2 a1 a2 (hp1.keep (Keeps.below hb fun _ hk => hk) fun _ hk => Nat.lt_of_lt_of_le hk hb.size) (hp2.keep (Keeps.below hb fun _ hk => hk) fun _ hk => Nat.lt_of_lt_of_le hk hb.size))
  have HB := Lib.hid (fun wz (hb : Below w.heap.size w wz) => rints_is (fun k => k < wz.heap.size) wz r1 r2 b1 b2 (hr1.keep (Keeps.below hb fun _ hk => hk) fun _ hk => Nat.lt_of_lt_of_le hk hb.size) (hr2.keep (Keeps.below hb fun _ hk => hk) fun _ hk => Nat.lt_of_lt_of_le hk hb.size))
  obtain ⟨P1, cp1, hp1v, _, _⟩ := hp1.form
  obtain ⟨R1, cr1, hr1v, _, _⟩ := hr1.form
  obtain ⟨P2, cp2, hp2v, _, _⟩ := hp2.form
  obtain ⟨R2, cr2, hr2v, _, _⟩ := hr2.form
  rw [hp1v, hp2v] at HA
  rw [hr1v, hr2v] at HB
  rw [hp1v, hr1v, hp2v, hr2v]
  clear hp1 hr1 hp2 hr2 hp1v hr1v hp2v hr2v
  generalize hx : decide (a1 = a2) = x at HA
  generalize hy : decide (b1 = b2) = y at HB
  have hxy : decide (a1 = a2 ∧ b1 = b2) = (x && y) := by rw [← hx, ← hy]; exact Bool.decide_and _ _
  rw [hxy]
  clear hx hy hxy
  generalize a1.length = l1 at *
  generalize b1.length = l2 at *
  generalize a2.length = l3 at *
  generalize b2.length = l4 at *
  have hb0 := ((Below.refl w.heap.size w).alloc (Nat.le_refl _) (.cells #[.slice P1 l1 cp1, .slice R1 l2 cr1] 35)).alloc (by simp) (.cells #[.slice P2 l3 cp2, .slice R2 l4 cr2] 35)
  have HA0 := Lib.hid (HA.out _ hb0)
  have HB0 := Lib.hid hb0
  have HC : Hid (∀ wz, Below ((w.alloc (.cells #[.slice P1 l1 cp1, .slice R1 l2 cr1] 35)).alloc (.cells #[.slice P2 l3 cp2, .slice R2 l4 cr2] 35)).heap.size ((w.alloc (.cells #[.slice P1 l1 cp1, .slice R1 l2 cr1] 35)).alloc (.cells #[.slice P2 l3 cp2, .slice R2 l4 cr2] 35)) wz → wz.cell? ⟨w.heap.size, 1, none⟩ = some (.slice R1 l2 cr1) ∧ wz.cell? ⟨w.heap.size + 1, 1, none⟩ = some (.slice R2 l4 cr2)) := Lib.hid fun wz hb =>
    ⟨(hb.cell (p := ⟨w.heap.size, 1, none⟩) (by simp; omega)).trans (by rw [World.cell?_alloc_lt _ _ _ (by simp), World.cell?_alloc_new]; rfl), (hb.cell (p := ⟨w.heap.size + 1, 1, none⟩) (by simp)).trans (by have h := World.cell?_alloc_new (w.alloc (.cells #[.slice P1 l1 cp1, .slice R1 l2 cr1] 35)) #[.slice P2 l3 cp2, .slice R2 l4 cr2] 35 1; rw [show (w.alloc (.cells #[.slice P1 l1 cp1, .slice R1 l2 cr1] 35)).heap.size = w.heap.size + 1 by simp] at h; exact h)⟩
  clear hb0 HA
  go_enter Tryd.func6, Tryd.ntmps6
  go_wp2_with fail
  go_at_call 19
  refine HA0.out.mono ?_
  rintro e w1 ⟨rfl, hb1⟩
  obtain ⟨k1, k2⟩ := HC.out w1 hb1
  have HB1 := Lib.hid (below_then HB0.out hb1)
  clear hb1 HA0 HC HB0
  cases x with
  | true =>
    have HQ := Lib.hid (HB.out w1 HB1.out)
    go_wp2_with (go_at_call 19; refine HQ.out.mono ?_; rintro e w2 ⟨rfl, hb2⟩)
    go_ret
    exact ⟨ret_bool (by simp), below_then HB1.out hb2⟩
  | false =>
    go_wp2
    go_ret
    exact ⟨ret_bool (by simp), HB1.out⟩
end Go.Proofs.YtinljaobdnkifaaDoor
