/-
  What chapter 7 fixes, as plain functions on rows of numbers: which end belongs to which block.
  Code that is nested as it should be is matched; code within one block more.
-/
import Derived.Below
import Derived.Test.YtdfonjnplmfhfaaNest
namespace Go.Proofs.Ytdfonjnplmfhfaa

/-- A block: where it begins, its else, its end. -/
abbrev Sp := Int × Int × Int
structure MSt where
  out : List Sp
  op : List Nat
  deep : Nat
def spAt (l : List Sp) (k : Nat) : Sp := l.getD k (0, 0, 0)
/-- One instruction, of which z is what stands for no end yet. -/
def mstep (ops : List Int) (z : Int) (i : Nat) (s : MSt) : Option MSt :=
  if 2 ≤ ops.getD i 0 ∧ ops.getD i 0 ≤ 4 then some ⟨s.out ++ [((i : Int), -1, z)], s.op ++ [s.out.length], max s.deep (s.op.length + 1)⟩
  else if ops.getD i 0 = 5 then
    (match s.op.getLast? with
     | none => none
     | some k => if ops.getD (spAt s.out k).1.toNat 0 = 4 ∧ (spAt s.out k).2.1 = -1 then some ⟨s.out.set k ((spAt s.out k).1, (i : Int), (spAt s.out k).2.2), s.op, s.deep⟩ else none)
  else if ops.getD i 0 = 11 then
    (match s.op.getLast? with
     | none => none
     | some k => some ⟨s.out.set k ((spAt s.out k).1, (spAt s.out k).2.1, (i : Int)), s.op.dropLast, s.deep⟩)
  else some s
def mrun (ops : List Int) (z : Int) : Nat → Option MSt
  | 0 => some ⟨[], [], 0⟩
  | i + 1 => (mrun ops z i).bind (mstep ops z i)
/-- What Of gives: the blocks, and the number of the refusal. -/
def matchP (ops : List Int) : List Sp × Int :=
  if ops.length = 0 ∨ ops.getD (ops.length - 1) 0 ≠ 11 then ([], 12)
  else match mrun ops 0 (ops.length - 1) with
    | none => ([], 12)
    | some s => if s.op ≠ [] then ([], 12) else if 64 < s.deep then ([], 26) else (s.out, 0)

theorem spAt_snoc (l : List Sp) (x : Sp) (k : Nat) : spAt (l ++ [x]) k = if k = l.length then x else spAt l k := by
  unfold spAt
  rw [List.getD_eq_getElem?_getD, List.getD_eq_getElem?_getD, List.getElem?_append]
  by_cases h : k < l.length
  · rw [if_pos h, if_neg (by omega)]
  · rw [if_neg h]
    by_cases h2 : k = l.length
    · rw [if_pos h2, h2]; simp
    · rw [if_neg h2, List.getElem?_eq_none (by simp; omega), List.getElem?_eq_none (by omega)]
theorem spAt_set (l : List Sp) (x : Sp) (j k : Nat) (hj : j < l.length) : spAt (l.set j x) k = if k = j then x else spAt l k := by
  unfold spAt
  rw [List.getD_eq_getElem?_getD, List.getD_eq_getElem?_getD, List.getElem?_set]
  by_cases h : j = k
  · subst h; rw [if_pos rfl, if_pos rfl, if_pos hj]; rfl
  · rw [if_neg h, if_neg (fun e => h e.symm)]
theorem last_split {l : List Nat} {k : Nat} (h : l.getLast? = some k) : l = l.dropLast ++ [k] := by
  rcases List.eq_nil_or_concat l with rfl | ⟨t, x, rfl⟩
  · simp at h
  · rw [List.concat_eq_append] at h ⊢
    rw [List.getLast?_append] at h
    simp at h
    subst h
    simp
theorem last_none {l : List Nat} (h : l.getLast? = none) : l = [] := List.getLast?_eq_none_iff.1 h

/-- The ways of one step. -/
theorem mstep_cases {ops : List Int} {z : Int} {i : Nat} {s t : MSt} (h : mstep ops z i s = some t) :
    ((2 ≤ ops.getD i 0 ∧ ops.getD i 0 ≤ 4) ∧ t = ⟨s.out ++ [((i : Int), -1, z)], s.op ++ [s.out.length], max s.deep (s.op.length + 1)⟩) ∨
    (∃ k, ops.getD i 0 = 5 ∧ s.op = s.op.dropLast ++ [k] ∧ ops.getD (spAt s.out k).1.toNat 0 = 4 ∧ (spAt s.out k).2.1 = -1 ∧ t = ⟨s.out.set k ((spAt s.out k).1, (i : Int), (spAt s.out k).2.2), s.op, s.deep⟩) ∨
    (∃ k, ops.getD i 0 = 11 ∧ s.op = s.op.dropLast ++ [k] ∧ t = ⟨s.out.set k ((spAt s.out k).1, (spAt s.out k).2.1, (i : Int)), s.op.dropLast, s.deep⟩) ∨
    ((¬ (2 ≤ ops.getD i 0 ∧ ops.getD i 0 ≤ 4) ∧ ops.getD i 0 ≠ 5 ∧ ops.getD i 0 ≠ 11) ∧ t = s) := by
  unfold mstep at h
  by_cases h1 : 2 ≤ ops.getD i 0 ∧ ops.getD i 0 ≤ 4
  · rw [if_pos h1] at h; exact .inl ⟨h1, (Option.some.inj h).symm⟩
  · rw [if_neg h1] at h
    by_cases h2 : ops.getD i 0 = 5
    · rw [if_pos h2] at h
      cases hk : s.op.getLast? with
      | none => rw [hk] at h; cases h
      | some k =>
        rw [hk] at h
        by_cases h3 : ops.getD (spAt s.out k).1.toNat 0 = 4 ∧ (spAt s.out k).2.1 = -1
        · simp only [if_pos h3] at h
          exact .inr (.inl ⟨k, h2, last_split hk, h3.1, h3.2, (Option.some.inj h).symm⟩)
        · simp only [if_neg h3] at h; cases h
    · rw [if_neg h2] at h
      by_cases h3 : ops.getD i 0 = 11
      · rw [if_pos h3] at h
        cases hk : s.op.getLast? with
        | none => rw [hk] at h; cases h
        | some k => rw [hk] at h; exact .inr (.inr (.inl ⟨k, h3, last_split hk, (Option.some.inj h).symm⟩))
      · rw [if_neg h3] at h; exact .inr (.inr (.inr ⟨⟨h1, h2, h3⟩, (Option.some.inj h).symm⟩))

/-- What holds of each state. -/
structure MInv (ops : List Int) (i : Nat) (s : MSt) : Prop where
  opl : s.op.length ≤ s.out.length
  outl : s.out.length ≤ i
  lt : ∀ k ∈ s.op, k < s.out.length
  asc : s.op.Pairwise (· < ·)
  a0 : ∀ j, j < s.out.length → 0 ≤ (spAt s.out j).1 ∧ (spAt s.out j).1 < i
  am : ∀ j k, j < k → k < s.out.length → (spAt s.out j).1 < (spAt s.out k).1
  zz : ∀ j, j < s.out.length → j ∉ s.op → (spAt s.out j).1 < (spAt s.out j).2.2 ∧ (spAt s.out j).2.2 < i ∧ ops.getD (spAt s.out j).2.2.toNat 0 = 11
  ee : ∀ j, j < s.out.length → (spAt s.out j).2.1 = -1 ∨ ((spAt s.out j).1 < (spAt s.out j).2.1 ∧ (spAt s.out j).2.1 < i ∧ ops.getD (spAt s.out j).1.toNat 0 = 4 ∧ (j ∉ s.op → (spAt s.out j).2.1 < (spAt s.out j).2.2))
  nz : ∀ j k, j < k → k < s.out.length → j ∉ s.op → (spAt s.out k).1 < (spAt s.out j).2.2 → k ∉ s.op ∧ (spAt s.out k).2.2 < (spAt s.out j).2.2
  ne : ∀ j k, j < k → k < s.out.length → (spAt s.out j).2.1 ≠ -1 → (spAt s.out k).1 < (spAt s.out j).2.1 → k ∉ s.op ∧ (spAt s.out k).2.2 < (spAt s.out j).2.1
theorem top_max {l : List Nat} {k : Nat} (h : (l ++ [k]).Pairwise (· < ·)) : ∀ j ∈ l, j < k := fun j hj => by
  have := List.pairwise_append.1 h
  exact this.2.2 j hj k (by simp)
theorem MInv.step {ops : List Int} {z : Int} {i : Nat} {s t : MSt} (h : MInv ops i s) (hs : mstep ops z i s = some t) : MInv ops (i + 1) t := by
  obtain ⟨h1, h2, h3, h4, h5, h6, h7, h8, h9, h10⟩ := h
  rcases mstep_cases hs with ⟨_, rfl⟩ | ⟨k0, hop, hk, h4i, he, rfl⟩ | ⟨k0, hop, hk, rfl⟩ | ⟨_, rfl⟩
  · have hout : ∀ j, j ∈ s.op ++ [s.out.length] ↔ j ∈ s.op ∨ j = s.out.length := fun j => by simp
    refine ⟨by simp; omega, by simp; omega, ?_, ?_, ?_, ?_, ?_, ?_, ?_, ?_⟩
    · intro k hk; simp only [hout] at hk; simp only [List.length_append, List.length_singleton]
      rcases hk with hk | rfl
      · have := h3 k hk; omega
      · omega
    · refine List.pairwise_append.2 ⟨h4, by simp, fun a ha b hb => ?_⟩
      obtain rfl := List.mem_singleton.1 hb
      exact h3 a ha
    · intro j hj; simp only [List.length_append, List.length_singleton] at hj; simp only [spAt_snoc]
      by_cases e : j = s.out.length
      · rw [if_pos e]; simp only; omega
      · rw [if_neg e]; have := h5 j (by omega); omega
    · intro j k hjk hk; simp only [List.length_append, List.length_singleton] at hk; simp only [spAt_snoc]
      rw [if_neg (by omega)]
      by_cases e : k = s.out.length
      · rw [if_pos e]; have := h5 j (by omega); simp only; omega
      · rw [if_neg e]; exact h6 j k hjk (by omega)
    · intro j hj hn; simp only [List.length_append, List.length_singleton] at hj; simp only [hout, not_or] at hn; simp only [spAt_snoc]
      rw [if_neg hn.2]; have := h7 j (by omega) hn.1; exact ⟨this.1, by omega, this.2.2⟩
    · intro j hj; simp only [List.length_append, List.length_singleton] at hj; simp only [hout, not_or, spAt_snoc]
      by_cases e : j = s.out.length
      · rw [if_pos e]; exact .inl rfl
      · rw [if_neg e]
        rcases h8 j (by omega) with q | ⟨q1, q2, q3, q4⟩
        · exact .inl q
        · exact .inr ⟨q1, by omega, q3, fun hn => q4 hn.1⟩
    · intro j k hjk hk hn; simp only [List.length_append, List.length_singleton] at hk; simp only [hout, not_or] at hn ⊢; simp only [spAt_snoc]
      rw [if_neg (show ¬ j = s.out.length by omega)]
      by_cases e : k = s.out.length
      · rw [if_pos e]; intro hlt; have := h7 j (by omega) hn.1; simp only at hlt; omega
      · rw [if_neg e]; intro hlt; have := h9 j k hjk (by omega) hn.1 hlt; exact ⟨⟨this.1, e⟩, this.2⟩
    · intro j k hjk hk hn; simp only [List.length_append, List.length_singleton] at hk; simp only [hout, not_or] at hn ⊢; simp only [spAt_snoc] at hn ⊢
      rw [if_neg (show ¬ j = s.out.length by omega)] at hn ⊢
      by_cases e : k = s.out.length
      · rw [if_pos e]; intro hlt
        rcases h8 j (by omega) with q | ⟨q1, q2, _⟩
        · exact absurd q hn
        · simp only at hlt; omega
      · rw [if_neg e]; intro hlt; have := h10 j k hjk (by omega) hn hlt; exact ⟨⟨this.1, e⟩, this.2⟩
  · have hk0 : k0 < s.out.length := h3 k0 (by rw [hk]; simp)
    have hin : k0 ∈ s.op := by rw [hk]; simp
    have hab : ∀ k, k0 < k → k ∉ s.op := fun k hlt hm => by
      rw [hk] at hm h4
      rcases List.mem_append.1 hm with hm | hm
      · have := top_max h4 k hm; omega
      · obtain rfl := List.mem_singleton.1 hm; omega
    have a5 := h5 k0 hk0
    refine ⟨by simpa using h1, by simp; omega, fun k hk' => by simpa using h3 k hk', h4, ?_, ?_, ?_, ?_, ?_, ?_⟩
    all_goals simp only [List.length_set]
    · intro j hj; rw [spAt_set _ _ _ _ hk0]
      by_cases e : j = k0
      · rw [if_pos e]; simp only; omega
      · rw [if_neg e]; have := h5 j hj; omega
    · intro j k hjk hlt; rw [spAt_set _ _ _ _ hk0, spAt_set _ _ _ _ hk0]
      have := h6 j k hjk hlt
      by_cases e : j = k0
      · subst e; rw [if_pos rfl, if_neg (by omega)]; exact this
      · rw [if_neg e]
        by_cases e2 : k = k0
        · subst e2; rw [if_pos rfl]; exact this
        · rw [if_neg e2]; exact this
    · intro j hj hn; rw [spAt_set _ _ _ _ hk0, if_neg (fun e => hn (by rw [e]; exact hin))]
      have := h7 j hj hn; exact ⟨this.1, by omega, this.2.2⟩
    · intro j hj; rw [spAt_set _ _ _ _ hk0]
      by_cases e : j = k0
      · subst e; rw [if_pos rfl]; exact .inr ⟨by simp only; omega, by simp only; omega, h4i, fun hn => absurd hin hn⟩
      · rw [if_neg e]
        rcases h8 j hj with q | ⟨q1, q2, q3, q4⟩
        · exact .inl q
        · exact .inr ⟨q1, by omega, q3, q4⟩
    · intro j k hjk hlt hn; rw [spAt_set _ _ _ _ hk0, spAt_set _ _ _ _ hk0, if_neg (fun e : j = k0 => hn (by rw [e]; exact hin))]
      by_cases e2 : k = k0
      · subst e2; rw [if_pos rfl]; intro hl; exact absurd hin (h9 j k hjk hlt hn hl).1
      · rw [if_neg e2]; intro hl; exact h9 j k hjk hlt hn hl
    · intro j k hjk hlt; rw [spAt_set _ _ _ _ hk0, spAt_set _ _ _ _ hk0]
      by_cases e : j = k0
      · subst e; rw [if_pos rfl, if_neg (by omega)]; intro _ _
        have hn := hab k hjk
        have := h7 k hlt hn; exact ⟨hn, this.2.1⟩
      · rw [if_neg e]; intro hn
        by_cases e2 : k = k0
        · subst e2; rw [if_pos rfl]; intro hl; exact absurd hin (h10 j k hjk hlt hn hl).1
        · rw [if_neg e2]; intro hl; exact h10 j k hjk hlt hn hl
  · have hk0 : k0 < s.out.length := h3 k0 (by rw [hk]; simp)
    have hin : k0 ∈ s.op := by rw [hk]; simp
    have hpw := h4
    rw [hk] at hpw
    have htop := top_max hpw
    have hmem : ∀ j, j ∈ s.op ↔ j ∈ s.op.dropLast ∨ j = k0 := fun j => by
      constructor
      · intro h; rw [hk] at h; simpa using h
      · intro h; rw [hk]; simpa using h
    have hab : ∀ k, k0 < k → k ∉ s.op := fun k hlt hm => by
      rcases (hmem k).1 hm with hm | rfl
      · have := htop k hm; omega
      · omega
    have hnt : k0 ∉ s.op.dropLast := fun hm => by have := htop k0 hm; omega
    have a5 := h5 k0 hk0
    have hdl : s.op.dropLast.length ≤ s.op.length := by simp
    refine ⟨by simp only [List.length_set]; omega, by simp only [List.length_set]; omega, fun k hk' => by simpa using h3 k ((hmem k).2 (.inl hk')), (List.pairwise_append.1 hpw).1, ?_, ?_, ?_, ?_, ?_, ?_⟩
    all_goals simp only [List.length_set]
    · intro j hj; rw [spAt_set _ _ _ _ hk0]
      by_cases e : j = k0
      · rw [if_pos e]; simp only; omega
      · rw [if_neg e]; have := h5 j hj; omega
    · intro j k hjk hlt; rw [spAt_set _ _ _ _ hk0, spAt_set _ _ _ _ hk0]
      have := h6 j k hjk hlt
      by_cases e : j = k0
      · subst e; rw [if_pos rfl, if_neg (by omega)]; exact this
      · rw [if_neg e]
        by_cases e2 : k = k0
        · subst e2; rw [if_pos rfl]; exact this
        · rw [if_neg e2]; exact this
    · intro j hj hn; rw [spAt_set _ _ _ _ hk0]
      by_cases e : j = k0
      · subst e; rw [if_pos rfl]; exact ⟨by simp only; omega, by simp only; omega, by simpa using hop⟩
      · rw [if_neg e]; have := h7 j hj (fun hm => ((hmem j).1 hm).elim hn e); exact ⟨this.1, by omega, this.2.2⟩
    · intro j hj; rw [spAt_set _ _ _ _ hk0]
      by_cases e : j = k0
      · subst e; rw [if_pos rfl]
        rcases h8 j hj with q | ⟨q1, q2, q3, q4⟩
        · exact .inl q
        · exact .inr ⟨q1, by simp only; omega, q3, fun _ => by simp only; omega⟩
      · rw [if_neg e]
        rcases h8 j hj with q | ⟨q1, q2, q3, q4⟩
        · exact .inl q
        · exact .inr ⟨q1, by omega, q3, fun hn => q4 (fun hm => ((hmem j).1 hm).elim hn e)⟩
    · intro j k hjk hlt hn; rw [spAt_set _ _ _ _ hk0, spAt_set _ _ _ _ hk0]
      by_cases e : j = k0
      · subst e; rw [if_pos rfl, if_neg (by omega)]; intro hl
        have hn2 := hab k hjk
        have := h7 k hlt hn2; exact ⟨fun hm => hn2 ((hmem k).2 (.inl hm)), this.2.1⟩
      · rw [if_neg e]
        have hn2 : j ∉ s.op := fun hm => ((hmem j).1 hm).elim hn e
        by_cases e2 : k = k0
        · subst e2; rw [if_pos rfl]; intro hl; exact absurd hin (h9 j k hjk hlt hn2 hl).1
        · rw [if_neg e2]; intro hl; have := h9 j k hjk hlt hn2 hl; exact ⟨fun hm => this.1 ((hmem k).2 (.inl hm)), this.2⟩
    · intro j k hjk hlt; rw [spAt_set _ _ _ _ hk0, spAt_set _ _ _ _ hk0]
      by_cases e : j = k0
      · subst e; rw [if_pos rfl, if_neg (by omega)]; intro hne hl
        have := h10 j k hjk hlt hne hl; exact ⟨fun hm => this.1 ((hmem k).2 (.inl hm)), this.2⟩
      · rw [if_neg e]; intro hne
        by_cases e2 : k = k0
        · subst e2; rw [if_pos rfl]; intro hl; exact absurd hin (h10 j k hjk hlt hne hl).1
        · rw [if_neg e2]; intro hl; have := h10 j k hjk hlt hne hl; exact ⟨fun hm => this.1 ((hmem k).2 (.inl hm)), this.2⟩
  · exact ⟨h1, by omega, h3, h4, fun j hj => by have := h5 j hj; omega, h6, fun j hj hn => by have := h7 j hj hn; exact ⟨this.1, by omega, this.2.2⟩, fun j hj => by
      rcases h8 j hj with q | ⟨q1, q2, q3, q4⟩
      · exact .inl q
      · exact .inr ⟨q1, by omega, q3, q4⟩, h9, h10⟩
theorem mrun_inv (ops : List Int) (z : Int) : ∀ i s, mrun ops z i = some s → MInv ops i s := by
  intro i
  induction i with
  | zero =>
    intro s h
    obtain rfl := Option.some.inj h
    exact ⟨Nat.le_refl _, Nat.le_refl _, by simp, by simp, by simp, by simp, by simp, by simp, by simp, by simp⟩
  | succ i ih =>
    intro s h
    have h' : (mrun ops z i).bind (mstep ops z i) = some s := h
    cases hr : mrun ops z i with
    | none => rw [hr] at h'; cases h'
    | some q => rw [hr] at h'; exact (ih q hr).step h'
theorem mrun_none {ops : List Int} {z : Int} {i : Nat} (h : mrun ops z i = none) : ∀ j, i ≤ j → mrun ops z j = none := by
  intro j hj
  induction j with
  | zero => obtain rfl : i = 0 := by omega
            exact h
  | succ j ih =>
    rcases Nat.lt_or_ge j i with h1 | h1
    · obtain rfl : i = j + 1 := by omega
      exact h
    · show (mrun ops z j).bind _ = none
      rw [ih h1]; rfl

/-- Two states that part in what stands for no end alone. -/
def MRel (a b : Option MSt) : Prop := match a, b with
  | none, none => True
  | some s, some t => s.op = t.op ∧ s.deep = t.deep ∧ s.out.length = t.out.length ∧ (∀ j, (spAt s.out j).1 = (spAt t.out j).1 ∧ (spAt s.out j).2.1 = (spAt t.out j).2.1) ∧ ∀ j, j ∉ s.op → spAt s.out j = spAt t.out j
  | _, _ => False
theorem mrun_rel (ops : List Int) (y z : Int) : ∀ i, MRel (mrun ops y i) (mrun ops z i) := by
  intro i
  induction i with
  | zero => exact ⟨rfl, rfl, rfl, fun _ => ⟨rfl, rfl⟩, fun _ _ => rfl⟩
  | succ i ih =>
    show MRel ((mrun ops y i).bind (mstep ops y i)) ((mrun ops z i).bind (mstep ops z i))
    cases h1 : mrun ops y i with
    | none =>
      cases h2 : mrun ops z i with
      | none => exact trivial
      | some t => rw [h1, h2] at ih; exact ih.elim
    | some s =>
      cases h2 : mrun ops z i with
      | none => rw [h1, h2] at ih; exact ih.elim
      | some t =>
        rw [h1, h2] at ih
        have hs := mrun_inv ops y i s h1
        obtain ⟨e1, e2, e3, e4, e5⟩ := ih
        show MRel (mstep ops y i s) (mstep ops z i t)
        unfold mstep
        rw [← e1]
        by_cases c1 : 2 ≤ ops.getD i 0 ∧ ops.getD i 0 ≤ 4
        · rw [if_pos c1, if_pos c1]
          refine ⟨by rw [e3], by rw [e2], by simp [e3], fun j => ?_, fun j hj => ?_⟩
          · rw [spAt_snoc, spAt_snoc, e3]
            by_cases e : j = t.out.length
            · rw [if_pos e, if_pos e]; exact ⟨rfl, rfl⟩
            · rw [if_neg e, if_neg e]; exact e4 j
          · simp only [List.mem_append, List.mem_singleton, not_or] at hj
            rw [spAt_snoc, spAt_snoc, e3, if_neg (by rw [← e3]; exact hj.2), if_neg (by rw [← e3]; exact hj.2)]; exact e5 j hj.1
        · rw [if_neg c1, if_neg c1]
          by_cases c2 : ops.getD i 0 = 5
          · rw [if_pos c2, if_pos c2]
            cases hk : s.op.getLast? with
            | none => exact trivial
            | some k =>
              have hkm : k ∈ s.op := by rw [last_split hk]; simp
              have hkl := hs.lt k hkm
              simp only [← (e4 k).1, ← (e4 k).2]
              by_cases c3 : ops.getD (spAt s.out k).1.toNat 0 = 4 ∧ (spAt s.out k).2.1 = -1
              · rw [if_pos c3, if_pos c3]
                refine ⟨rfl, e2, by simp [e3], fun j => ?_, fun j hj => ?_⟩
                · rw [spAt_set _ _ _ _ hkl, spAt_set _ _ _ _ (by omega)]
                  by_cases e : j = k
                  · rw [if_pos e, if_pos e]; exact ⟨rfl, rfl⟩
                  · rw [if_neg e, if_neg e]; exact e4 j
                · have hj' : j ∉ s.op := hj
                  rw [spAt_set _ _ _ _ hkl, spAt_set _ _ _ _ (by omega), if_neg (fun e => hj' (by rw [e]; exact hkm)), if_neg (fun e => hj' (by rw [e]; exact hkm))]; exact e5 j hj'
              · rw [if_neg c3, if_neg c3]; exact trivial
          · rw [if_neg c2, if_neg c2]
            by_cases c3 : ops.getD i 0 = 11
            · rw [if_pos c3, if_pos c3]
              cases hk : s.op.getLast? with
              | none => exact trivial
              | some k =>
                have hkm : k ∈ s.op := by rw [last_split hk]; simp
                have hkl := hs.lt k hkm
                simp only [← (e4 k).1, ← (e4 k).2]
                refine ⟨rfl, e2, by simp [e3], fun j => ?_, fun j hj => ?_⟩
                · rw [spAt_set _ _ _ _ hkl, spAt_set _ _ _ _ (by omega)]
                  by_cases e : j = k
                  · rw [if_pos e, if_pos e]; exact ⟨rfl, rfl⟩
                  · rw [if_neg e, if_neg e]; exact e4 j
                · rw [spAt_set _ _ _ _ hkl, spAt_set _ _ _ _ (by omega)]
                  by_cases e : j = k
                  · rw [if_pos e, if_pos e]
                  · rw [if_neg e, if_neg e]
                    refine e5 j fun hm => ?_
                    rw [last_split hk] at hm
                    rcases List.mem_append.1 hm with hm | hm
                    · exact hj hm
                    · exact e (List.mem_singleton.1 hm)
            · rw [if_neg c3, if_neg c3]; exact ⟨e1, e2, e3, e4, e5⟩
theorem sp_ext {a b : List Sp} (hl : a.length = b.length) (h : ∀ j, spAt a j = spAt b j) : a = b := by
  refine List.ext_getElem hl fun j h1 h2 => ?_
  have := h j
  unfold spAt at this
  rw [List.getD_eq_getElem?_getD, List.getD_eq_getElem?_getD, List.getElem?_eq_getElem h1, List.getElem?_eq_getElem h2] at this
  exact this
/-- Of by any number that stands for no end yet. -/
theorem matchP_any (ops : List Int) (z : Int) : matchP ops =
    (if ops.length = 0 ∨ ops.getD (ops.length - 1) 0 ≠ 11 then (([] : List Sp), (12 : Int))
    else match mrun ops z (ops.length - 1) with
      | none => (([] : List Sp), (12 : Int))
      | some s => if s.op ≠ [] then (([] : List Sp), (12 : Int)) else if 64 < s.deep then (([] : List Sp), (26 : Int)) else (s.out, (0 : Int))) := by
  unfold matchP
  by_cases c : ops.length = 0 ∨ ops.getD (ops.length - 1) 0 ≠ 11
  · rw [if_pos c, if_pos c]
  · rw [if_neg c, if_neg c]
    have h := mrun_rel ops 0 z (ops.length - 1)
    cases h1 : mrun ops 0 (ops.length - 1) with
    | none =>
      cases h2 : mrun ops z (ops.length - 1) with
      | none => rfl
      | some t => rw [h1, h2] at h; exact h.elim
    | some s =>
      cases h2 : mrun ops z (ops.length - 1) with
      | none => rw [h1, h2] at h; exact h.elim
      | some t =>
        rw [h1, h2] at h
        obtain ⟨e1, e2, e3, _, e5⟩ := h
        simp only [← e1, ← e2]
        by_cases c1 : s.op ≠ []
        · rw [if_pos c1, if_pos c1]
        · rw [if_neg c1, if_neg c1]
          have h0 : s.op = [] := Classical.not_not.1 c1
          rw [sp_ext e3 fun j => e5 j (by rw [h0]; simp)]
end Go.Proofs.Ytdfonjnplmfhfaa
namespace Go.Proofs.Ytdfonjnplmfhfaa

/-- What is open, by the blocks that were found. -/
def kindOf (ops : List Int) (out : List Sp) (k : Nat) : Nat := if ops.getD (spAt out k).1.toNat 0 = 4 ∧ (spAt out k).2.1 = -1 then 1 else 0
theorem mrun_of_nest (ops : List Int) (z : Int) : ∀ i, i ≤ ops.length → ∀ o, nestOf (ops.take i) [] = some o → ∃ s, mrun ops z i = some s ∧ o = (s.op.map (kindOf ops s.out)).reverse ∧ s.deep ≤ 60 := by
  intro i
  induction i with
  | zero => intro _ o h; simp only [List.take_zero, nestOf, Option.some.injEq] at h; exact ⟨_, rfl, by simp [← h], Nat.zero_le _⟩
  | succ i ih =>
    intro hi o h
    have hg : ops.getD i 0 = ops[i] := by rw [List.getD_eq_getElem?_getD, List.getElem?_eq_getElem (by omega)]; rfl
    rw [List.take_succ_eq_append_getElem (by omega), nestOf_snoc] at h
    cases hn : nestOf (ops.take i) [] with
    | none => rw [hn] at h; cases h
    | some p =>
      rw [hn] at h
      have h' : nestStep ops[i] p = some o := h
      obtain ⟨s, hs, hp, hd⟩ := ih (by omega) p hn
      have hv := mrun_inv ops z i s hs
      have hpl : p.length = s.op.length := by rw [hp]; simp
      have hrun : mrun ops z (i + 1) = mstep ops z i s := by show (mrun ops z i).bind _ = _; rw [hs]; rfl
      rw [hrun]
      unfold nestStep at h'
      unfold mstep
      rw [hg]
      have hk0 : ∀ x : Int × Int × Int, ∀ k ∈ s.op, kindOf ops (s.out ++ [x]) k = kindOf ops s.out k := fun x k hk => by
        have e : spAt (s.out ++ [x]) k = spAt s.out k := by rw [spAt_snoc, if_neg (by have := hv.lt k hk; omega)]
        unfold kindOf; rw [e]
      by_cases c1 : ops[i] = 2 ∨ ops[i] = 3
      · rw [if_pos c1] at h'
        by_cases c2 : p.length < 60
        · rw [if_pos c2] at h'
          obtain rfl := Option.some.inj h'
          rw [if_pos (by omega)]
          refine ⟨_, rfl, ?_, by simp only; omega⟩
          simp only [List.map_append, List.reverse_append, List.map_singleton, List.reverse_singleton, List.singleton_append]
          rw [List.map_congr_left (hk0 _), ← hp]
          congr 1
          unfold kindOf
          rw [spAt_snoc, if_pos rfl]
          simp only [Int.toNat_natCast, hg]
          rw [if_neg (by omega)]
        · rw [if_neg c2] at h'; cases h'
      · rw [if_neg c1] at h'
        by_cases c3 : ops[i] = 4
        · rw [if_pos c3] at h'
          by_cases c2 : p.length < 60
          · rw [if_pos c2] at h'
            obtain rfl := Option.some.inj h'
            rw [if_pos (by omega)]
            refine ⟨_, rfl, ?_, by simp only; omega⟩
            simp only [List.map_append, List.reverse_append, List.map_singleton, List.reverse_singleton, List.singleton_append]
            rw [List.map_congr_left (hk0 _), ← hp]
            congr 1
            unfold kindOf
            rw [spAt_snoc, if_pos rfl]
            simp only [Int.toNat_natCast, hg]
            rw [if_pos ⟨c3, trivial⟩]
          · rw [if_neg c2] at h'; cases h'
        · rw [if_neg c3] at h'
          rw [if_neg (show ¬ (2 ≤ ops[i] ∧ ops[i] ≤ 4) by omega)]
          by_cases c5 : ops[i] = 5
          · rw [if_pos c5] at h' ⊢
            cases hl : s.op.getLast? with
            | none => rw [last_none hl] at hp; rw [hp] at h'; cases h'
            | some k =>
              have hsp := last_split hl
              have hkm : k ∈ s.op := by rw [hsp]; simp
              have hkl := hv.lt k hkm
              have htop : ∀ j ∈ s.op.dropLast, j < k := top_max (by rw [← hsp]; exact hv.asc)
              have hp2 : p = kindOf ops s.out k :: (s.op.dropLast.map (kindOf ops s.out)).reverse := by rw [hp, hsp]; simp
              simp only
              by_cases c6 : ops.getD (spAt s.out k).1.toNat 0 = 4 ∧ (spAt s.out k).2.1 = -1
              · rw [if_pos c6]
                have hk1 : kindOf ops s.out k = 1 := by unfold kindOf; rw [if_pos c6]
                rw [hp2, hk1] at h'
                obtain rfl := Option.some.inj h'
                refine ⟨_, rfl, ?_, hd⟩
                have hmap : s.op.map (kindOf ops (s.out.set k ((spAt s.out k).1, (i : Int), (spAt s.out k).2.2))) = s.op.dropLast.map (kindOf ops s.out) ++ [0] := by
                  conv => lhs; rw [hsp]
                  rw [List.map_append, List.map_singleton]
                  congr 1
                  · refine List.map_congr_left fun j hj => ?_
                    have e := spAt_set s.out ((spAt s.out k).1, (i : Int), (spAt s.out k).2.2) k j hkl
                    rw [if_neg (by have := htop j hj; omega)] at e
                    unfold kindOf; rw [e]
                  · congr 1
                    have e := spAt_set s.out ((spAt s.out k).1, (i : Int), (spAt s.out k).2.2) k k hkl
                    rw [if_pos rfl] at e
                    unfold kindOf; rw [e, if_neg (by simp only; omega)]
                simp only [hmap, List.reverse_append, List.reverse_singleton, List.singleton_append]
              · have hk1 : kindOf ops s.out k = 0 := by unfold kindOf; rw [if_neg c6]
                rw [hp2, hk1] at h'; cases h'
          · rw [if_neg c5] at h' ⊢
            by_cases c11 : ops[i] = 11
            · rw [if_pos c11] at h' ⊢
              cases hl : s.op.getLast? with
              | none => rw [last_none hl] at hp; rw [hp] at h'; cases h'
              | some k =>
                have hsp := last_split hl
                have hkm : k ∈ s.op := by rw [hsp]; simp
                have hkl := hv.lt k hkm
                have htop : ∀ j ∈ s.op.dropLast, j < k := top_max (by rw [← hsp]; exact hv.asc)
                have hp2 : p = kindOf ops s.out k :: (s.op.dropLast.map (kindOf ops s.out)).reverse := by rw [hp, hsp]; simp
                rw [hp2] at h'
                obtain rfl := Option.some.inj h'
                refine ⟨_, rfl, ?_, hd⟩
                simp only
                congr 1
                refine List.map_congr_left fun j hj => ?_
                have e := spAt_set s.out ((spAt s.out k).1, (spAt s.out k).2.1, (i : Int)) k j hkl
                rw [if_neg (by have := htop j hj; omega)] at e
                unfold kindOf; rw [e]
            · rw [if_neg c11] at h' ⊢
              obtain rfl := Option.some.inj h'
              exact ⟨_, rfl, hp, hd⟩
/-- Code that is nested as it should be, and its end, is matched. -/
theorem matchP_of_nest (c : List Int) (h : nestOf c [] = some []) : ∃ s, mrun (c ++ [11]) 0 c.length = some s ∧ s.op = [] ∧ matchP (c ++ [11]) = (s.out, 0) ∧ MInv (c ++ [11]) c.length s ∧ s.deep ≤ 60 := by
  obtain ⟨s, h1, h2, h3⟩ := mrun_of_nest (c ++ [11]) 0 c.length (by simp) [] (by rw [List.take_left]; exact h)
  have h4 : s.op = [] := by simpa using h2.symm
  refine ⟨s, h1, h4, ?_, mrun_inv _ _ _ _ h1, h3⟩
  unfold matchP
  rw [if_neg (by simp), List.length_append, List.length_singleton, Nat.add_sub_cancel, h1]
  simp only
  rw [if_neg (by simp [h4]), if_neg (by omega)]

/-- One place on. -/
def shiftS (s : Sp) : Sp := (s.1 + 1, (if s.2.1 = -1 then -1 else s.2.1 + 1), s.2.2 + 1)
theorem spAt_map (l : List Sp) (k : Nat) (h : k < l.length) : spAt (l.map shiftS) k = shiftS (spAt l k) := by
  unfold spAt
  rw [List.getD_eq_getElem?_getD, List.getD_eq_getElem?_getD, List.getElem?_map, List.getElem?_eq_getElem h]; rfl
/-- The same within one block more. -/
theorem mrun_wrap (op : Int) (c : List Int) (z : Int) (hop : op = 2 ∨ op = 3 ∨ op = 4) : ∀ i, i ≤ c.length → ∀ s, mrun (c ++ [11]) z i = some s →
    ∃ d, mrun (op :: c ++ [11] ++ [11]) (z + 1) (i + 1) = some ⟨((0 : Int), -1, z + 1) :: s.out.map shiftS, 0 :: s.op.map (· + 1), d⟩ ∧ d ≤ s.deep + 1 := by
  have hget : ∀ j, j < c.length → (op :: c ++ [11] ++ [11]).getD (j + 1) 0 = (c ++ [11]).getD j 0 := fun j hj => by
    simp only [List.getD_eq_getElem?_getD, List.cons_append, List.getElem?_cons_succ]
    rw [List.getElem?_append_left (by simp; omega)]
  intro i
  induction i with
  | zero =>
    intro _ s h
    obtain rfl := Option.some.inj h
    refine ⟨1, ?_, by simp⟩
    show (some (⟨[], [], 0⟩ : MSt)).bind (mstep _ _ 0) = _
    show mstep _ _ 0 _ = _
    unfold mstep
    rw [if_pos (by show 2 ≤ op ∧ op ≤ 4; omega)]
    rfl
  | succ i ih =>
    intro hi s h
    have h' : (mrun (c ++ [11]) z i).bind (mstep (c ++ [11]) z i) = some s := h
    cases hr : mrun (c ++ [11]) z i with
    | none => rw [hr] at h'; cases h'
    | some q =>
      rw [hr] at h'
      have hq : mstep (c ++ [11]) z i q = some s := h'
      have hv := mrun_inv _ _ _ _ hr
      obtain ⟨d, h1, h2⟩ := ih (by omega) q hr
      have hrun : mrun (op :: c ++ [11] ++ [11]) (z + 1) (i + 1 + 1) = mstep (op :: c ++ [11] ++ [11]) (z + 1) (i + 1) ⟨((0 : Int), -1, z + 1) :: q.out.map shiftS, 0 :: q.op.map (· + 1), d⟩ := by
        show (mrun (op :: c ++ [11] ++ [11]) (z + 1) (i + 1)).bind _ = _; rw [h1]; rfl
      rw [hrun]
      have hsp1 : ∀ k, k < q.out.length → spAt (((0 : Int), -1, z + 1) :: q.out.map shiftS) (k + 1) = shiftS (spAt q.out k) := fun k hk => by
        rw [← spAt_map _ _ hk]; rfl
      unfold mstep
      rw [hget i (by omega)]
      rcases mstep_cases hq with ⟨c1, rfl⟩ | ⟨k, c5, hk, c4, ce, rfl⟩ | ⟨k, c11, hk, rfl⟩ | ⟨⟨c1, c5, c11⟩, rfl⟩
      · rw [if_pos c1]
        refine ⟨max d ((0 :: q.op.map (· + 1)).length + 1), ?_, ?_⟩
        · rw [Option.some.injEq, MSt.mk.injEq]
          refine ⟨?_, ?_, rfl⟩
          · simp [shiftS]
          · simp
        · simp only [List.length_cons, List.length_map]; omega
      · rw [if_neg (by omega), if_pos c5]
        have hkl := hv.lt k (by rw [hk]; simp)
        have hmp : q.op.map (· + 1) = q.op.dropLast.map (· + 1) ++ [k + 1] := by conv => lhs; rw [hk, List.map_append, List.map_singleton]
        have hlast : (0 :: q.op.map (· + 1)).getLast? = some (k + 1) := by rw [hmp, ← List.cons_append, List.getLast?_concat]
        have hA := hv.a0 k hkl
        have c4' : (op :: c ++ [11] ++ [11]).getD (shiftS (spAt q.out k)).1.toNat 0 = 4 := by
          rw [show (shiftS (spAt q.out k)).1.toNat = (spAt q.out k).1.toNat + 1 by simp only [shiftS]; omega, hget _ (by omega)]; exact c4
        simp only [hlast, hsp1 k hkl]
        rw [if_pos ⟨c4', by simp only [shiftS, ce]; rfl⟩]
        refine ⟨d, ?_, h2⟩
        rw [Option.some.injEq, MSt.mk.injEq]
        refine ⟨?_, rfl, rfl⟩
        rw [List.set_cons_succ, List.map_set]
        congr 2
      · rw [if_neg (by omega), if_neg (by omega), if_pos c11]
        have hkl := hv.lt k (by rw [hk]; simp)
        have hmp : q.op.map (· + 1) = q.op.dropLast.map (· + 1) ++ [k + 1] := by conv => lhs; rw [hk, List.map_append, List.map_singleton]
        have hlast : (0 :: q.op.map (· + 1)).getLast? = some (k + 1) := by rw [hmp, ← List.cons_append, List.getLast?_concat]
        simp only [hlast, hsp1 k hkl]
        refine ⟨d, ?_, h2⟩
        rw [Option.some.injEq, MSt.mk.injEq]
        refine ⟨?_, ?_, rfl⟩
        · rw [List.set_cons_succ, List.map_set]
          congr 2
        · rw [hmp, ← List.cons_append, List.dropLast_concat]
      · rw [if_neg c1, if_neg c5, if_neg c11]
        exact ⟨d, rfl, h2⟩
/-- What is matched is so within one block more: each place one further on. -/
theorem matchP_wrap (op : Int) (c : List Int) (hop : op = 2 ∨ op = 3 ∨ op = 4) (h : nestOf c [] = some []) (out : List Sp) (hm : matchP (c ++ [11]) = (out, 0)) :
    matchP (op :: c ++ [11] ++ [11]) = (((0 : Int), -1, (c.length : Int) + 1) :: out.map shiftS, 0) := by
  obtain ⟨s, h1, h2, h3, h4, h5⟩ := matchP_of_nest c h
  obtain rfl : s.out = out := by rw [h3] at hm; exact (Prod.mk.inj hm).1
  have hr := mrun_rel (c ++ [11]) 0 (-1) c.length
  rw [h1] at hr
  cases h6 : mrun (c ++ [11]) (-1) c.length with
  | none => rw [h6] at hr; exact hr.elim
  | some t =>
    rw [h6] at hr
    obtain ⟨e1, e2, e3, _, e5⟩ := hr
    have ho : s.out = t.out := sp_ext e3 fun j => e5 j (by rw [h2]; simp)
    have hto : t.op = [] := by rw [← e1, h2]
    obtain ⟨d, k1, k2⟩ := mrun_wrap op c (-1) hop c.length (Nat.le_refl _) t h6
    have hlen : (op :: c ++ [11] ++ [11]).length = c.length + 3 := by simp
    have hg : (op :: c ++ [11] ++ [11]).getD (c.length + 1) 0 = 11 := by
      rw [List.getD_eq_getElem?_getD]; simp
    have hg2 : (op :: c ++ [11] ++ [11]).getD (c.length + 2) 0 = 11 := by
      rw [List.getD_eq_getElem?_getD, List.getElem?_append_right (by simp)]; simp
    have hrun : mrun (op :: c ++ [11] ++ [11]) 0 (c.length + 2) = some ⟨((0 : Int), -1, (c.length : Int) + 1) :: t.out.map shiftS, [], d⟩ := by
      show (mrun (op :: c ++ [11] ++ [11]) (-1 + 1) (c.length + 1)).bind _ = _
      rw [k1, hto]
      show mstep _ 0 (c.length + 1) _ = _
      unfold mstep
      rw [hg]
      rfl
    unfold matchP
    rw [hlen, if_neg (by rw [show c.length + 3 - 1 = c.length + 2 by omega, hg2]; simp), show c.length + 3 - 1 = c.length + 2 by omega, hrun]
    simp only
    rw [if_neg (by simp), if_neg (by omega), ho]
/-- What is found of nested code: blocks lie in each other or apart, an else within its if alone. -/
theorem nested_facts (c : List Int) (h : nestOf c [] = some []) : ∃ out, matchP (c ++ [11]) = (out, 0) ∧ out.length ≤ c.length ∧ ∀ j, j < out.length →
    (0 ≤ (spAt out j).1 ∧ (spAt out j).1 < (spAt out j).2.2 ∧ (spAt out j).2.2 < (c.length : Int) ∧ (c ++ [11]).getD (spAt out j).2.2.toNat 0 = 11) ∧
    ((spAt out j).2.1 = -1 ∨ ((spAt out j).1 < (spAt out j).2.1 ∧ (spAt out j).2.1 < (spAt out j).2.2 ∧ (c ++ [11]).getD (spAt out j).1.toNat 0 = 4)) ∧
    ∀ k, j < k → k < out.length → (spAt out j).1 < (spAt out k).1 ∧ ((spAt out k).1 < (spAt out j).2.2 → (spAt out k).2.2 < (spAt out j).2.2) ∧ ((spAt out j).2.1 ≠ -1 → (spAt out k).1 < (spAt out j).2.1 → (spAt out k).2.2 < (spAt out j).2.1) := by
  obtain ⟨s, _, h2, h3, hv, _⟩ := matchP_of_nest c h
  have hn : ∀ j, j ∉ s.op := fun j => by rw [h2]; simp
  refine ⟨s.out, h3, hv.outl, fun j hj => ?_⟩
  obtain ⟨a1, a2⟩ := hv.a0 j hj
  obtain ⟨z1, z2, z3⟩ := hv.zz j hj (hn j)
  refine ⟨⟨a1, z1, z2, z3⟩, ?_, fun k hjk hk => ⟨hv.am j k hjk hk, fun hl => (hv.nz j k hjk hk (hn j) hl).2, fun he hl => (hv.ne j k hjk hk he hl).2⟩⟩
  rcases hv.ee j hj with e | ⟨e1, e2, e3, e4⟩
  · exact .inl e
  · exact .inr ⟨e1, e4 (hn j), e3⟩
end Go.Proofs.Ytdfonjnplmfhfaa
