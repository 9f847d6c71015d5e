/-
  Code that is nested as it should be is matched; code within one block more.
-/
import Derived.Test.YthofjcbdmdblpaaMSpec
import Derived.Test.YthofjcbdmdblpaaNest
namespace Go.Proofs.Ythofjcbdmdblpaa

/-- What is open, by the blocks that were found. -/
def kindOf (ops : List Int) (out : List Sp) (k : Nat) : Nat := if ops.getD (spAt out k).1.toNat 0 = 4 ∧ (spAt out k).2.1 = -1 then 1 else 0
theorem mrun_of_nest (ops : List Int) (z : Int) : ∀ i, i ≤ ops.length → ∀ o, nestOf (ops.take i) [] = some o → ∃ s, mrun ops z i = some s ∧ o = (s.op.map (kindOf ops s.out)).reverse ∧ s.deep ≤ 60 := by
  intro i
  induction i with
  | zero => intro _ o h; simp only [List.take_zero, nestOf, Option.some.injEq] at h; exact ⟨_, rfl, by simp [← h], Nat.zero_le _⟩
  | succ i ih =>
    intro hi o h
    have hg : ops.getD i 0 = ops[i] := by rw [List.getD_eq_getElem?_getD, List.getElem?_eq_getElem (by omega)]; rfl
    rw [List.take_succ_eq_append_getElem (by omega), nestOf_snoc] at h
    cases hn : nestOf (ops.take i) [] with
    | none => rw [hn] at h; cases h
    | some p =>
      rw [hn] at h
      have h' : nestStep ops[i] p = some o := h
      obtain ⟨s, hs, hp, hd⟩ := ih (by omega) p hn
      have hv := mrun_inv ops z i s hs
      have hpl : p.length = s.op.length := by rw [hp]; simp
      have hrun : mrun ops z (i + 1) = mstep ops z i s := by show (mrun ops z i).bind _ = _; rw [hs]; rfl
      rw [hrun]
      unfold nestStep at h'
      unfold mstep
      rw [hg]
      have hk0 : ∀ x : Int × Int × Int, ∀ k ∈ s.op, kindOf ops (s.out ++ [x]) k = kindOf ops s.out k := fun x k hk => by
        have e : spAt (s.out ++ [x]) k = spAt s.out k := by rw [spAt_snoc, if_neg (by have := hv.lt k hk; omega)]
        unfold kindOf; rw [e]
      by_cases c1 : ops[i] = 2 ∨ ops[i] = 3
      · rw [if_pos c1] at h'
        by_cases c2 : p.length < 60
        · rw [if_pos c2] at h'
          obtain rfl := Option.some.inj h'
          rw [if_pos (by omega)]
          refine ⟨_, rfl, ?_, by simp only; omega⟩
          simp only [List.map_append, List.reverse_append, List.map_singleton, List.reverse_singleton, List.singleton_append]
          rw [List.map_congr_left (hk0 _), ← hp]
          congr 1
          unfold kindOf
          rw [spAt_snoc, if_pos rfl]
          simp only [Int.toNat_natCast, hg]
          rw [if_neg (by omega)]
        · rw [if_neg c2] at h'; cases h'
      · rw [if_neg c1] at h'
        by_cases c3 : ops[i] = 4
        · rw [if_pos c3] at h'
          by_cases c2 : p.length < 60
          · rw [if_pos c2] at h'
            obtain rfl := Option.some.inj h'
            rw [if_pos (by omega)]
            refine ⟨_, rfl, ?_, by simp only; omega⟩
            simp only [List.map_append, List.reverse_append, List.map_singleton, List.reverse_singleton, List.singleton_append]
            rw [List.map_congr_left (hk0 _), ← hp]
            congr 1
            unfold kindOf
            rw [spAt_snoc, if_pos rfl]
            simp only [Int.toNat_natCast, hg]
            rw [if_pos ⟨c3, trivial⟩]
          · rw [if_neg c2] at h'; cases h'
        · rw [if_neg c3] at h'
          rw [if_neg (show ¬ (2 ≤ ops[i] ∧ ops[i] ≤ 4) by omega)]
          by_cases c5 : ops[i] = 5
          · rw [if_pos c5] at h' ⊢
            cases hl : s.op.getLast? with
            | none => rw [last_none hl] at hp; rw [hp] at h'; cases h'
            | some k =>
              have hsp := last_split hl
              have hkm : k ∈ s.op := by rw [hsp]; simp
              have hkl := hv.lt k hkm
              have htop : ∀ j ∈ s.op.dropLast, j < k := top_max (by rw [← hsp]; exact hv.asc)
              have hp2 : p = kindOf ops s.out k :: (s.op.dropLast.map (kindOf ops s.out)).reverse := by rw [hp, hsp]; simp
              simp only
              by_cases c6 : ops.getD (spAt s.out k).1.toNat 0 = 4 ∧ (spAt s.out k).2.1 = -1
              · rw [if_pos c6]
                have hk1 : kindOf ops s.out k = 1 := by unfold kindOf; rw [if_pos c6]
                rw [hp2, hk1] at h'
                obtain rfl := Option.some.inj h'
                refine ⟨_, rfl, ?_, hd⟩
                have hmap : s.op.map (kindOf ops (s.out.set k ((spAt s.out k).1, (i : Int), (spAt s.out k).2.2))) = s.op.dropLast.map (kindOf ops s.out) ++ [0] := by
                  conv => lhs; rw [hsp]
                  rw [List.map_append, List.map_singleton]
                  congr 1
                  · refine List.map_congr_left fun j hj => ?_
                    have e := spAt_set s.out ((spAt s.out k).1, (i : Int), (spAt s.out k).2.2) k j hkl
                    rw [if_neg (by have := htop j hj; omega)] at e
                    unfold kindOf; rw [e]
                  · congr 1
                    have e := spAt_set s.out ((spAt s.out k).1, (i : Int), (spAt s.out k).2.2) k k hkl
                    rw [if_pos rfl] at e
                    unfold kindOf; rw [e, if_neg (by simp only; omega)]
                simp only [hmap, List.reverse_append, List.reverse_singleton, List.singleton_append]
              · have hk1 : kindOf ops s.out k = 0 := by unfold kindOf; rw [if_neg c6]
                rw [hp2, hk1] at h'; cases h'
          · rw [if_neg c5] at h' ⊢
            by_cases c11 : ops[i] = 11
            · rw [if_pos c11] at h' ⊢
              cases hl : s.op.getLast? with
              | none => rw [last_none hl] at hp; rw [hp] at h'; cases h'
              | some k =>
                have hsp := last_split hl
                have hkm : k ∈ s.op := by rw [hsp]; simp
                have hkl := hv.lt k hkm
                have htop : ∀ j ∈ s.op.dropLast, j < k := top_max (by rw [← hsp]; exact hv.asc)
                have hp2 : p = kindOf ops s.out k :: (s.op.dropLast.map (kindOf ops s.out)).reverse := by rw [hp, hsp]; simp
                rw [hp2] at h'
                obtain rfl := Option.some.inj h'
                refine ⟨_, rfl, ?_, hd⟩
                simp only
                congr 1
                refine List.map_congr_left fun j hj => ?_
                have e := spAt_set s.out ((spAt s.out k).1, (spAt s.out k).2.1, (i : Int)) k j hkl
                rw [if_neg (by have := htop j hj; omega)] at e
                unfold kindOf; rw [e]
            · rw [if_neg c11] at h' ⊢
              obtain rfl := Option.some.inj h'
              exact ⟨_, rfl, hp, hd⟩
/-- Code that is nested as it should be, and its end, is matched. -/
theorem matchP_of_nest (c : List Int) (h : nestOf c [] = some []) : ∃ s, mrun (c ++ [11]) 0 c.length = some s ∧ s.op = [] ∧ matchP (c ++ [11]) = (s.out, 0) ∧ MInv (c ++ [11]) c.length s ∧ s.deep ≤ 60 := by
  obtain ⟨s, h1, h2, h3⟩ := mrun_of_nest (c ++ [11]) 0 c.length (by simp) [] (by rw [List.take_left]; exact h)
  have h4 : s.op = [] := by simpa using h2.symm
  refine ⟨s, h1, h4, ?_, mrun_inv _ _ _ _ h1, h3⟩
  unfold matchP
  rw [if_neg (by simp), List.length_append, List.length_singleton, Nat.add_sub_cancel, h1]
  simp only
  rw [if_neg (by simp [h4]), if_neg (by omega)]

/-- One place on. -/
def shiftS (s : Sp) : Sp := (s.1 + 1, (if s.2.1 = -1 then -1 else s.2.1 + 1), s.2.2 + 1)
theorem spAt_map (l : List Sp) (k : Nat) (h : k < l.length) : spAt (l.map shiftS) k = shiftS (spAt l k) := by
  unfold spAt
  rw [List.getD_eq_getElem?_getD, List.getD_eq_getElem?_getD, List.getElem?_map, List.getElem?_eq_getElem h]; rfl
/-- The same within one block more. -/
theorem mrun_wrap (op : Int) (c : List Int) (z : Int) (hop : op = 2 ∨ op = 3 ∨ op = 4) : ∀ i, i ≤ c.length → ∀ s, mrun (c ++ [11]) z i = some s →
    ∃ d, mrun (op :: c ++ [11] ++ [11]) (z + 1) (i + 1) = some ⟨((0 : Int), -1, z + 1) :: s.out.map shiftS, 0 :: s.op.map (· + 1), d⟩ ∧ d ≤ s.deep + 1 := by
  have hget : ∀ j, j < c.length → (op :: c ++ [11] ++ [11]).getD (j + 1) 0 = (c ++ [11]).getD j 0 := fun j hj => by
    simp only [List.getD_eq_getElem?_getD, List.cons_append, List.getElem?_cons_succ]
    rw [List.getElem?_append_left (by simp; omega)]
  intro i
  induction i with
  | zero =>
    intro _ s h
    obtain rfl := Option.some.inj h
    refine ⟨1, ?_, by simp⟩
    show (some (⟨[], [], 0⟩ : MSt)).bind (mstep _ _ 0) = _
    show mstep _ _ 0 _ = _
    unfold mstep
    rw [if_pos (by show 2 ≤ op ∧ op ≤ 4; omega)]
    rfl
  | succ i ih =>
    intro hi s h
    have h' : (mrun (c ++ [11]) z i).bind (mstep (c ++ [11]) z i) = some s := h
    cases hr : mrun (c ++ [11]) z i with
    | none => rw [hr] at h'; cases h'
    | some q =>
      rw [hr] at h'
      have hq : mstep (c ++ [11]) z i q = some s := h'
      have hv := mrun_inv _ _ _ _ hr
      obtain ⟨d, h1, h2⟩ := ih (by omega) q hr
      have hrun : mrun (op :: c ++ [11] ++ [11]) (z + 1) (i + 1 + 1) = mstep (op :: c ++ [11] ++ [11]) (z + 1) (i + 1) ⟨((0 : Int), -1, z + 1) :: q.out.map shiftS, 0 :: q.op.map (· + 1), d⟩ := by
        show (mrun (op :: c ++ [11] ++ [11]) (z + 1) (i + 1)).bind _ = _; rw [h1]; rfl
      rw [hrun]
      have hsp1 : ∀ k, k < q.out.length → spAt (((0 : Int), -1, z + 1) :: q.out.map shiftS) (k + 1) = shiftS (spAt q.out k) := fun k hk => by
        rw [← spAt_map _ _ hk]; rfl
      unfold mstep
      rw [hget i (by omega)]
      rcases mstep_cases hq with ⟨c1, rfl⟩ | ⟨k, c5, hk, c4, ce, rfl⟩ | ⟨k, c11, hk, rfl⟩ | ⟨⟨c1, c5, c11⟩, rfl⟩
      · rw [if_pos c1]
        refine ⟨max d ((0 :: q.op.map (· + 1)).length + 1), ?_, ?_⟩
        · rw [Option.some.injEq, MSt.mk.injEq]
          refine ⟨?_, ?_, rfl⟩
          · simp [shiftS]
          · simp
        · simp only [List.length_cons, List.length_map]; omega
      · rw [if_neg (by omega), if_pos c5]
        have hkl := hv.lt k (by rw [hk]; simp)
        have hmp : q.op.map (· + 1) = q.op.dropLast.map (· + 1) ++ [k + 1] := by conv => lhs; rw [hk, List.map_append, List.map_singleton]
        have hlast : (0 :: q.op.map (· + 1)).getLast? = some (k + 1) := by rw [hmp, ← List.cons_append, List.getLast?_concat]
        have hA := hv.a0 k hkl
        have c4' : (op :: c ++ [11] ++ [11]).getD (shiftS (spAt q.out k)).1.toNat 0 = 4 := by
          rw [show (shiftS (spAt q.out k)).1.toNat = (spAt q.out k).1.toNat + 1 by simp only [shiftS]; omega, hget _ (by omega)]; exact c4
        simp only [hlast, hsp1 k hkl]
        rw [if_pos ⟨c4', by simp only [shiftS, ce]; rfl⟩]
        refine ⟨d, ?_, h2⟩
        rw [Option.some.injEq, MSt.mk.injEq]
        refine ⟨?_, rfl, rfl⟩
        rw [List.set_cons_succ, List.map_set]
        congr 2
      · rw [if_neg (by omega), if_neg (by omega), if_pos c11]
        have hkl := hv.lt k (by rw [hk]; simp)
        have hmp : q.op.map (· + 1) = q.op.dropLast.map (· + 1) ++ [k + 1] := by conv => lhs; rw [hk, List.map_append, List.map_singleton]
        have hlast : (0 :: q.op.map (· + 1)).getLast? = some (k + 1) := by rw [hmp, ← List.cons_append, List.getLast?_concat]
        simp only [hlast, hsp1 k hkl]
        refine ⟨d, ?_, h2⟩
        rw [Option.some.injEq, MSt.mk.injEq]
        refine ⟨?_, ?_, rfl⟩
        · rw [List.set_cons_succ, List.map_set]
          congr 2
        · rw [hmp, ← List.cons_append, List.dropLast_concat]
      · rw [if_neg c1, if_neg c5, if_neg c11]
        exact ⟨d, rfl, h2⟩
/-- What is matched is so within one block more: each place one further on. -/
theorem matchP_wrap (op : Int) (c : List Int) (hop : op = 2 ∨ op = 3 ∨ op = 4) (h : nestOf c [] = some []) (out : List Sp) (hm : matchP (c ++ [11]) = (out, 0)) :
    matchP (op :: c ++ [11] ++ [11]) = (((0 : Int), -1, (c.length : Int) + 1) :: out.map shiftS, 0) := by
  obtain ⟨s, h1, h2, h3, h4, h5⟩ := matchP_of_nest c h
  obtain rfl : s.out = out := by rw [h3] at hm; exact (Prod.mk.inj hm).1
  have hr := mrun_rel (c ++ [11]) 0 (-1) c.length
  rw [h1] at hr
  cases h6 : mrun (c ++ [11]) (-1) c.length with
  | none => rw [h6] at hr; exact hr.elim
  | some t =>
    rw [h6] at hr
    obtain ⟨e1, e2, e3, _, e5⟩ := hr
    have ho : s.out = t.out := sp_ext e3 fun j => e5 j (by rw [h2]; simp)
    have hto : t.op = [] := by rw [← e1, h2]
    obtain ⟨d, k1, k2⟩ := mrun_wrap op c (-1) hop c.length (Nat.le_refl _) t h6
    have hlen : (op :: c ++ [11] ++ [11]).length = c.length + 3 := by simp
    have hg : (op :: c ++ [11] ++ [11]).getD (c.length + 1) 0 = 11 := by
      rw [List.getD_eq_getElem?_getD]; simp
    have hg2 : (op :: c ++ [11] ++ [11]).getD (c.length + 2) 0 = 11 := by
      rw [List.getD_eq_getElem?_getD, List.getElem?_append_right (by simp)]; simp
    have hrun : mrun (op :: c ++ [11] ++ [11]) 0 (c.length + 2) = some ⟨((0 : Int), -1, (c.length : Int) + 1) :: t.out.map shiftS, [], d⟩ := by
      show (mrun (op :: c ++ [11] ++ [11]) (-1 + 1) (c.length + 1)).bind _ = _
      rw [k1, hto]
      show mstep _ 0 (c.length + 1) _ = _
      unfold mstep
      rw [hg]
      rfl
    unfold matchP
    rw [hlen, if_neg (by rw [show c.length + 3 - 1 = c.length + 2 by omega, hg2]; simp), show c.length + 3 - 1 = c.length + 2 by omega, hrun]
    simp only
    rw [if_neg (by simp), if_neg (by omega), ho]
/-- What is found of nested code: blocks lie in each other or apart, an else within its if alone. -/
theorem nested_facts (c : List Int) (h : nestOf c [] = some []) : ∃ out, matchP (c ++ [11]) = (out, 0) ∧ out.length ≤ c.length ∧ ∀ j, j < out.length →
    (0 ≤ (spAt out j).1 ∧ (spAt out j).1 < (spAt out j).2.2 ∧ (spAt out j).2.2 < (c.length : Int) ∧ (c ++ [11]).getD (spAt out j).2.2.toNat 0 = 11) ∧
    ((spAt out j).2.1 = -1 ∨ ((spAt out j).1 < (spAt out j).2.1 ∧ (spAt out j).2.1 < (spAt out j).2.2 ∧ (c ++ [11]).getD (spAt out j).1.toNat 0 = 4)) ∧
    ∀ k, j < k → k < out.length → (spAt out j).1 < (spAt out k).1 ∧ ((spAt out k).1 < (spAt out j).2.2 → (spAt out k).2.2 < (spAt out j).2.2) ∧ ((spAt out j).2.1 ≠ -1 → (spAt out k).1 < (spAt out j).2.1 → (spAt out k).2.2 < (spAt out j).2.1) := by
  obtain ⟨s, _, h2, h3, hv, _⟩ := matchP_of_nest c h
  have hn : ∀ j, j ∉ s.op := fun j => by rw [h2]; simp
  refine ⟨s.out, h3, hv.outl, fun j hj => ?_⟩
  obtain ⟨a1, a2⟩ := hv.a0 j hj
  obtain ⟨z1, z2, z3⟩ := hv.zz j hj (hn j)
  refine ⟨⟨a1, z1, z2, z3⟩, ?_, fun k hjk hk => ⟨hv.am j k hjk hk, fun hl => (hv.nz j k hjk hk (hn j) hl).2, fun he hl => (hv.ne j k hjk hk he hl).2⟩⟩
  rcases hv.ee j hj with e | ⟨e1, e2, e3, e4⟩
  · exact .inl e
  · exact .inr ⟨e1, e4 (hn j), e3⟩
end Go.Proofs.Ythofjcbdmdblpaa
