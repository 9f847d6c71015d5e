/- A part of the proof. -/
import Derived.Test.YteohmkceapblkaaDoorJ19
namespace Go.Proofs.YteohmkceapblkaaDoor
section
abbrev Sp := Int × Int × Int
structure MSt where
  out : List Sp
  op : List Nat
  deep : Nat
def spAt (l : List Sp) (k : Nat) : Sp := l.getD k (0, 0, 0)
def mstep (ops : List Int) (z : Int) (i : Nat) (s : MSt) : Option MSt :=
  if 2 ≤ ops.getD i 0 ∧ ops.getD i 0 ≤ 4 then some ⟨s.out ++ [((i : Int), -1, z)], s.op ++ [s.out.length], max s.deep (s.op.length + 1)⟩
  else if ops.getD i 0 = 5 then
    (match s.op.getLast? with
     | none => none
     | some k => if ops.getD (spAt s.out k).1.toNat 0 = 4 ∧ (spAt s.out k).2.1 = -1 then some ⟨s.out.set k ((spAt s.out k).1, (i : Int), (spAt s.out k).2.2), s.op, s.deep⟩ else none)
  else if ops.getD i 0 = 11 then
    (match s.op.getLast? with
     | none => none
     | some k => some ⟨s.out.set k ((spAt s.out k).1, (spAt s.out k).2.1, (i : Int)), s.op.dropLast, s.deep⟩)
  else some s
def mrun (ops : List Int) (z : Int) : Nat → Option MSt
  | 0 => some ⟨[], [], 0⟩
  | i + 1 => (mrun ops z i).bind (mstep ops z i)
def matchP (ops : List Int) : List Sp × Int :=
  if ops.length = 0 ∨ ops.getD (ops.length - 1) 0 ≠ 11 then ([], 12)
  else match mrun ops 0 (ops.length - 1) with
    | none => ([], 12)
    | some s => if s.op ≠ [] then ([], 12) else if 64 < s.deep then ([], 26) else (s.out, 0)
theorem spAt_snoc (l : List Sp) (x : Sp) (k : Nat) : spAt (l ++ [x]) k = if k = l.length then x else spAt l k := by
  unfold spAt
  rw [List.getD_eq_getElem?_getD, List.getD_eq_getElem?_getD, List.getElem?_append]
  by_cases h : k < l.length
  · rw [if_pos h, if_neg (by omega)]
  · rw [if_neg h]
    by_cases h2 : k = l.length
    · rw [if_pos h2, h2]; simp
    · rw [if_neg h2, List.getElem?_eq_none (by simp; omega), List.getElem?_eq_none (by omega)]
theorem spAt_set (l : List Sp) (x : Sp) (j k : Nat) (hj : j < l.length) : spAt (l.set j x) k = if k = j then x else spAt l k := by
  unfold spAt
  rw [List.getD_eq_getElem?_getD, List.getD_eq_getElem?_getD, List.getElem?_set]
  by_cases h : j = k
  · subst h; rw [if_pos rfl, if_pos rfl, if_pos hj]; rfl
  · rw [if_neg h, if_neg (fun e => h e.symm)]
theorem last_split {l : List Nat} {k : Nat} (h : l.getLast? = some k) : l = l.dropLast ++ [k] := by
  rcases List.eq_nil_or_concat l with rfl | ⟨t, x, rfl⟩
  · simp at h
  · rw [List.concat_eq_append] at h ⊢
    rw [List.getLast?_append] at h
    simp at h
    subst h
    simp
theorem mstep_cases {ops : List Int} {z : Int} {i : Nat} {s t : MSt} (h : mstep ops z i s = some t) :
    ((2 ≤ ops.getD i 0 ∧ ops.getD i 0 ≤ 4) ∧ t = ⟨s.out ++ [((i : Int), -1, z)], s.op ++ [s.out.length], max s.deep (s.op.length + 1)⟩) ∨
    (∃ k, ops.getD i 0 = 5 ∧ s.op = s.op.dropLast ++ [k] ∧ ops.getD (spAt s.out k).1.toNat 0 = 4 ∧ (spAt s.out k).2.1 = -1 ∧ t = ⟨s.out.set k ((spAt s.out k).1, (i : Int), (spAt s.out k).2.2), s.op, s.deep⟩) ∨
    (∃ k, ops.getD i 0 = 11 ∧ s.op = s.op.dropLast ++ [k] ∧ t = ⟨s.out.set k ((spAt s.out k).1, (spAt s.out k).2.1, (i : Int)), s.op.dropLast, s.deep⟩) ∨
    ((¬ (2 ≤ ops.getD i 0 ∧ ops.getD i 0 ≤ 4) ∧ ops.getD i 0 ≠ 5 ∧ ops.getD i 0 ≠ 11) ∧ t = s) := by
  unfold mstep at h
  by_cases h1 : 2 ≤ ops.getD i 0 ∧ ops.getD i 0 ≤ 4
  · rw [if_pos h1] at h; exact .inl ⟨h1, (Option.some.inj h).symm⟩
  · rw [if_neg h1] at h
    by_cases h2 : ops.getD i 0 = 5
    · rw [if_pos h2] at h
      cases hk : s.op.getLast? with
      | none => rw [hk] at h; cases h
      | some k =>
        rw [hk] at h
        by_cases h3 : ops.getD (spAt s.out k).1.toNat 0 = 4 ∧ (spAt s.out k).2.1 = -1
        · simp only [if_pos h3] at h
          exact .inr (.inl ⟨k, h2, last_split hk, h3.1, h3.2, (Option.some.inj h).symm⟩)
        · simp only [if_neg h3] at h; cases h
    · rw [if_neg h2] at h
      by_cases h3 : ops.getD i 0 = 11
      · rw [if_pos h3] at h
        cases hk : s.op.getLast? with
        | none => rw [hk] at h; cases h
        | some k => rw [hk] at h; exact .inr (.inr (.inl ⟨k, h3, last_split hk, (Option.some.inj h).symm⟩))
      · rw [if_neg h3] at h; exact .inr (.inr (.inr ⟨⟨h1, h2, h3⟩, (Option.some.inj h).symm⟩))
structure MInv (ops : List Int) (i : Nat) (s : MSt) : Prop where
  opl : s.op.length ≤ s.out.length
  outl : s.out.length ≤ i
  lt : ∀ k ∈ s.op, k < s.out.length
  asc : s.op.Pairwise (· < ·)
  a0 : ∀ j, j < s.out.length → 0 ≤ (spAt s.out j).1 ∧ (spAt s.out j).1 < i
  am : ∀ j k, j < k → k < s.out.length → (spAt s.out j).1 < (spAt s.out k).1
  zz : ∀ j, j < s.out.length → j ∉ s.op → (spAt s.out j).1 < (spAt s.out j).2.2 ∧ (spAt s.out j).2.2 < i ∧ ops.getD (spAt s.out j).2.2.toNat 0 = 11
  ee : ∀ j, j < s.out.length → (spAt s.out j).2.1 = -1 ∨ ((spAt s.out j).1 < (spAt s.out j).2.1 ∧ (spAt s.out j).2.1 < i ∧ ops.getD (spAt s.out j).1.toNat 0 = 4 ∧ (j ∉ s.op → (spAt s.out j).2.1 < (spAt s.out j).2.2))
  nz : ∀ j k, j < k → k < s.out.length → j ∉ s.op → (spAt s.out k).1 < (spAt s.out j).2.2 → k ∉ s.op ∧ (spAt s.out k).2.2 < (spAt s.out j).2.2
  ne : ∀ j k, j < k → k < s.out.length → (spAt s.out j).2.1 ≠ -1 → (spAt s.out k).1 < (spAt s.out j).2.1 → k ∉ s.op ∧ (spAt s.out k).2.2 < (spAt s.out j).2.1
theorem top_max {l : List Nat} {k : Nat} (h : (l ++ [k]).Pairwise (· < ·)) : ∀ j ∈ l, j < k := fun j hj => by
  have := List.pairwise_append.1 h
  exact this.2.2 j hj k (by simp)
theorem MInv.step {ops : List Int} {z : Int} {i : Nat} {s t : MSt} (h : MInv ops i s) (hs : mstep ops z i s = some t) : MInv ops (i + 1) t := by
  obtain ⟨h1, h2, h3, h4, h5, h6, h7, h8, h9, h10⟩ := h
  rcases mstep_cases hs with ⟨_, rfl⟩ | ⟨k0, hop, hk, h4i, he, rfl⟩ | ⟨k0, hop, hk, rfl⟩ | ⟨_, rfl⟩
  · have hout : ∀ j, j ∈ s.op ++ [s.out.length] ↔ j ∈ s.op ∨ j = s.out.length := fun j => by simp
    refine ⟨by simp; omega, by simp; omega, ?_, ?_, ?_, ?_, ?_, ?_, ?_, ?_⟩
    · intro k hk; simp only [hout] at hk; simp only [List.length_append, List.length_singleton]
      rcases hk with hk | rfl
      · have := h3 k hk; omega
      · omega
    · refine List.pairwise_append.2 ⟨h4, by simp, fun a ha b hb => ?_⟩
      obtain rfl := List.mem_singleton.1 hb
      exact h3 a ha
    · intro j hj; simp only [List.length_append, List.length_singleton] at hj; simp only [spAt_snoc]
      by_cases e : j = s.out.length
      · rw [if_pos e]; simp only; omega
      · rw [if_neg e]; have := h5 j (by omega); omega
    · intro j k hjk hk; simp only [List.length_append, List.length_singleton] at hk; simp only [spAt_snoc]
      rw [if_neg (by omega)]
      by_cases e : k = s.out.length
      · rw [if_pos e]; have := h5 j (by omega); simp only; omega
      · rw [if_neg e]; exact h6 j k hjk (by omega)
    · intro j hj hn; simp only [List.length_append, List.length_singleton] at hj; simp only [hout, not_or] at hn; simp only [spAt_snoc]
      rw [if_neg hn.2]; have := h7 j (by omega) hn.1; exact ⟨this.1, by omega, this.2.2⟩
    · intro j hj; simp only [List.length_append, List.length_singleton] at hj; simp only [hout, not_or, spAt_snoc]
      by_cases e : j = s.out.length
      · rw [if_pos e]; exact .inl rfl
      · rw [if_neg e]
        rcases h8 j (by omega) with q | ⟨q1, q2, q3, q4⟩
        · exact .inl q
        · exact .inr ⟨q1, by omega, q3, fun hn => q4 hn.1⟩
    · intro j k hjk hk hn; simp only [List.length_append, List.length_singleton] at hk; simp only [hout, not_or] at hn ⊢; simp only [spAt_snoc]
      rw [if_neg (show ¬ j = s.out.length by omega)]
      by_cases e : k = s.out.length
      · rw [if_pos e]; intro hlt; have := h7 j (by omega) hn.1; simp only at hlt; omega
      · rw [if_neg e]; intro hlt; have := h9 j k hjk (by omega) hn.1 hlt; exact ⟨⟨this.1, e⟩, this.2⟩
    · intro j k hjk hk hn; simp only [List.length_append, List.length_singleton] at hk; simp only [hout, not_or] at hn ⊢; simp only [spAt_snoc] at hn ⊢
      rw [if_neg (show ¬ j = s.out.length by omega)] at hn ⊢
      by_cases e : k = s.out.length
      · rw [if_pos e]; intro hlt
        rcases h8 j (by omega) with q | ⟨q1, q2, _⟩
        · exact absurd q hn
        · simp only at hlt; omega
      · rw [if_neg e]; intro hlt; have := h10 j k hjk (by omega) hn hlt; exact ⟨⟨this.1, e⟩, this.2⟩
  · have hk0 : k0 < s.out.length := h3 k0 (by rw [hk]; simp)
    have hin : k0 ∈ s.op := by rw [hk]; simp
    have hab : ∀ k, k0 < k → k ∉ s.op := fun k hlt hm => by
      rw [hk] at hm h4
      rcases List.mem_append.1 hm with hm | hm
      · have := top_max h4 k hm; omega
      · obtain rfl := List.mem_singleton.1 hm; omega
    have a5 := h5 k0 hk0
    refine ⟨by simpa using h1, by simp; omega, fun k hk' => by simpa using h3 k hk', h4, ?_, ?_, ?_, ?_, ?_, ?_⟩
    all_goals simp only [List.length_set]
    · intro j hj; rw [spAt_set _ _ _ _ hk0]
      by_cases e : j = k0
      · rw [if_pos e]; simp only; omega
      · rw [if_neg e]; have := h5 j hj; omega
    · intro j k hjk hlt; rw [spAt_set _ _ _ _ hk0, spAt_set _ _ _ _ hk0]
      have := h6 j k hjk hlt
      by_cases e : j = k0
      · subst e; rw [if_pos rfl, if_neg (by omega)]; exact this
      · rw [if_neg e]
        by_cases e2 : k = k0
        · subst e2; rw [if_pos rfl]; exact this
        · rw [if_neg e2]; exact this
    · intro j hj hn; rw [spAt_set _ _ _ _ hk0, if_neg (fun e => hn (by rw [e]; exact hin))]
      have := h7 j hj hn; exact ⟨this.1, by omega, this.2.2⟩
    · intro j hj; rw [spAt_set _ _ _ _ hk0]
      by_cases e : j = k0
      · subst e; rw [if_pos rfl]; exact .inr ⟨by simp only; omega, by simp only; omega, h4i, fun hn => absurd hin hn⟩
      · rw [if_neg e]
        rcases h8 j hj with q | ⟨q1, q2, q3, q4⟩
        · exact .inl q
        · exact .inr ⟨q1, by omega, q3, q4⟩
    · intro j k hjk hlt hn; rw [spAt_set _ _ _ _ hk0, spAt_set _ _ _ _ hk0, if_neg (fun e : j = k0 => hn (by rw [e]; exact hin))]
      by_cases e2 : k = k0
      · subst e2; rw [if_pos rfl]; intro hl; exact absurd hin (h9 j k hjk hlt hn hl).1
      · rw [if_neg e2]; intro hl; exact h9 j k hjk hlt hn hl
    · intro j k hjk hlt; rw [spAt_set _ _ _ _ hk0, spAt_set _ _ _ _ hk0]
      by_cases e : j = k0
      · subst e; rw [if_pos rfl, if_neg (by omega)]; intro _ _
        have hn := hab k hjk
        have := h7 k hlt hn; exact ⟨hn, this.2.1⟩
      · rw [if_neg e]; intro hn
        by_cases e2 : k = k0
        · subst e2; rw [if_pos rfl]; intro hl; exact absurd hin (h10 j k hjk hlt hn hl).1
        · rw [if_neg e2]; intro hl; exact h10 j k hjk hlt hn hl
  · have hk0 : k0 < s.out.length := h3 k0 (by rw [hk]; simp)
    have hin : k0 ∈ s.op := by rw [hk]; simp
    have hpw := h4
    rw [hk] at hpw
    have htop := top_max hpw
    have hmem : ∀ j, j ∈ s.op ↔ j ∈ s.op.dropLast ∨ j = k0 := fun j => by
      constructor
      · intro h; rw [hk] at h; simpa using h
      · intro h; rw [hk]; simpa using h
    have hab : ∀ k, k0 < k → k ∉ s.op := fun k hlt hm => by
      rcases (hmem k).1 hm with hm | rfl
      · have := htop k hm; omega
      · omega
    have hnt : k0 ∉ s.op.dropLast := fun hm => by have := htop k0 hm; omega
    have a5 := h5 k0 hk0
    have hdl : s.op.dropLast.length ≤ s.op.length := by simp
    refine ⟨by simp only [List.length_set]; omega, by simp only [List.length_set]; omega, fun k hk' => by simpa using h3 k ((hmem k).2 (.inl hk')), (List.pairwise_append.1 hpw).1, ?_, ?_, ?_, ?_, ?_, ?_⟩
    all_goals simp only [List.length_set]
    · intro j hj; rw [spAt_set _ _ _ _ hk0]
      by_cases e : j = k0
      · rw [if_pos e]; simp only; omega
      · rw [if_neg e]; have := h5 j hj; omega
    · intro j k hjk hlt; rw [spAt_set _ _ _ _ hk0, spAt_set _ _ _ _ hk0]
      have := h6 j k hjk hlt
      by_cases e : j = k0
      · subst e; rw [if_pos rfl, if_neg (by omega)]; exact this
      · rw [if_neg e]
        by_cases e2 : k = k0
        · subst e2; rw [if_pos rfl]; exact this
        · rw [if_neg e2]; exact this
    · intro j hj hn; rw [spAt_set _ _ _ _ hk0]
      by_cases e : j = k0
      · subst e; rw [if_pos rfl]; exact ⟨by simp only; omega, by simp only; omega, by simpa using hop⟩
      · rw [if_neg e]; have := h7 j hj (fun hm => ((hmem j).1 hm).elim hn e); exact ⟨this.1, by omega, this.2.2⟩
    · intro j hj; rw [spAt_set _ _ _ _ hk0]
      by_cases e : j = k0
      · subst e; rw [if_pos rfl]
        rcases h8 j hj with q | ⟨q1, q2, q3, q4⟩
        · exact .inl q
        · exact .inr ⟨q1, by simp only; omega, q3, fun _ => by simp only; omega⟩
      · rw [if_neg e]
        rcases h8 j hj with q | ⟨q1, q2, q3, q4⟩
        · exact .inl q
        · exact .inr ⟨q1, by omega, q3, fun hn => q4 (fun hm => ((hmem j).1 hm).elim hn e)⟩
    · intro j k hjk hlt hn; rw [spAt_set _ _ _ _ hk0, spAt_set _ _ _ _ hk0]
      by_cases e : j = k0
      · subst e; rw [if_pos rfl, if_neg (by omega)]; intro hl
        have hn2 := hab k hjk
        have := h7 k hlt hn2; exact ⟨fun hm => hn2 ((hmem k).2 (.inl hm)), this.2.1⟩
      · rw [if_neg e]
        have hn2 : j ∉ s.op := fun hm => ((hmem j).1 hm).elim hn e
        by_cases e2 : k = k0
        · subst e2; rw [if_pos rfl]; intro hl; exact absurd hin (h9 j k hjk hlt hn2 hl).1
        · rw [if_neg e2]; intro hl; have := h9 j k hjk hlt hn2 hl; exact ⟨fun hm => this.1 ((hmem k).2 (.inl hm)), this.2⟩
    · intro j k hjk hlt; rw [spAt_set _ _ _ _ hk0, spAt_set _ _ _ _ hk0]
      by_cases e : j = k0
      · subst e; rw [if_pos rfl, if_neg (by omega)]; intro hne hl
        have := h10 j k hjk hlt hne hl; exact ⟨fun hm => this.1 ((hmem k).2 (.inl hm)), this.2⟩
      · rw [if_neg e]; intro hne
        by_cases e2 : k = k0
        · subst e2; rw [if_pos rfl]; intro hl; exact absurd hin (h10 j k hjk hlt hne hl).1
        · rw [if_neg e2]; intro hl; have := h10 j k hjk hlt hne hl; exact ⟨fun hm => this.1 ((hmem k).2 (.inl hm)), this.2⟩
  · exact ⟨h1, by omega, h3, h4, fun j hj => by have := h5 j hj; omega, h6, fun j hj hn => by have := h7 j hj hn; exact ⟨this.1, by omega, this.2.2⟩, fun j hj => by
      rcases h8 j hj with q | ⟨q1, q2, q3, q4⟩
      · exact .inl q
      · exact .inr ⟨q1, by omega, q3, q4⟩, h9, h10⟩
theorem mrun_inv (ops : List Int) (z : Int) : ∀ i s, mrun ops z i = some s → MInv ops i s := by
  intro i
  induction i with
  | zero =>
    intro s h
    obtain rfl := Option.some.inj h
    exact ⟨Nat.le_refl _, Nat.le_refl _, by simp, by simp, by simp, by simp, by simp, by simp, by simp, by simp⟩
  | succ i ih =>
    intro s h
    have h' : (mrun ops z i).bind (mstep ops z i) = some s := h
    cases hr : mrun ops z i with
    | none => rw [hr] at h'; cases h'
    | some q => rw [hr] at h'; exact (ih q hr).step h'
theorem mrun_none {ops : List Int} {z : Int} {i : Nat} (h : mrun ops z i = none) : ∀ j, i ≤ j → mrun ops z j = none := by
  intro j hj
  induction j with
  | zero => obtain rfl : i = 0 := by omega
            exact h
  | succ j ih =>
    rcases Nat.lt_or_ge j i with h1 | h1
    · obtain rfl : i = j + 1 := by omega
      exact h
    · show (mrun ops z j).bind _ = none
      rw [ih h1]; rfl
end
section
def firstC {α : Type} (g : α → Int) : List α → Int
  | [] => 0
  | a :: l => if g a = 0 then firstC g l else g a
theorem firstC_zero {α : Type} {g : α → Int} {l : List α} {d : α} (h : ∀ j, j < l.length → g (l.getD j d) = 0) : firstC g l = 0 := by
  induction l with
  | nil => rfl
  | cons a l ih =>
    have h0 : g a = 0 := h 0 (by simp)
    rw [firstC, if_pos h0]
    exact ih fun j hj => h (j + 1) (by simp; omega)
theorem firstC_at {α : Type} {g : α → Int} {d : α} : ∀ {l : List α} {k : Nat}, (∀ j, j < k → g (l.getD j d) = 0) → k < l.length → g (l.getD k d) ≠ 0 → firstC g l = g (l.getD k d) := by
  intro l
  induction l with
  | nil => intro k _ hk; simp at hk
  | cons a l ih =>
    intro k h hk hn
    cases k with
    | zero => rw [firstC]; exact if_neg hn
    | succ k =>
      have h0 : g a = 0 := h 0 (by omega)
      rw [firstC, if_pos h0]
      exact ih (fun j hj => h (j + 1) (by omega)) (by simpa using hk) hn
def matC (f : Fnc) : Int := (matchP (f.code.map Ins.op)).2
def impIn (n : Nat) (i : ByteArray × ByteArray × Int) : Bool := withinB i.2.2 n
def funIn (n : Nat) (f : Fnc) : Bool := withinB f.ty n
def typesC (m : Mdl) : Bool := m.imps.all (impIn m.types.length) && m.funs.all (funIn m.types.length)
def countC (m : Mdl) (kind : Int) : Nat := if kind = 0 then m.imps.length + m.funs.length else if kind = 2 then m.mems.length else m.globs.length
def expIn (m : Mdl) (e : ByteArray × Int × Int) : Bool := withinB e.2.2 (countC m e.2.1)
def datIn (n : Nat) (d : Dat) : Bool := !d.act || withinB d.mem n
def typPl (t : List Int × List Int) : Bool := decide (t.2.length ≤ 1)
def expPl (m : Mdl) (e : ByteArray × Int × Int) : Bool := !(decide (e.2.1 = 3) && (m.globs.getD e.2.2.toNat glob0).2.1)
def plainC (m : Mdl) : Bool := m.types.all typPl && m.datas.all Dat.act && m.exps.all (expPl m) && decide (m.mems.length ≤ 1)
def funcsC (m : Mdl) (prof : Int) : Int := firstC (fun k : Nat => (funcC m (k : Int) prof).2) (List.range m.funs.length)
def moduleC (m : Mdl) (prof : Int) : Int :=
  if prof ≠ 1 ∧ prof ≠ 2 then 1
  else if rightB m ≠ 0 then rightB m
  else if firstC matC m.funs ≠ 0 then firstC matC m.funs
  else if (typesC m && m.exps.all (expIn m) && m.datas.all (datIn m.mems.length)) = false then 23
  else if prof = 1 ∧ plainC m = false then 24
  else funcsC m prof
end
section
def numsTo (k : Nat) : List Int := ((List.range k).map fun j : Nat => ((69 : Int) + (j : Int))).filter numB
theorem numsTo_succ (k : Nat) : numsTo (k + 1) = numsTo k ++ (if numB (69 + (k : Int)) = true then [69 + (k : Int)] else []) := by
  unfold numsTo
  rw [List.range_succ, List.map_append, List.filter_append]
  congr 1
  cases h : numB (69 + (k : Int)) <;> simp [h]
theorem numsTo_len (k : Nat) : (numsTo k).length ≤ k := by
  unfold numsTo
  exact Nat.le_trans (List.length_filter_le _ _) (by simp)
def insL (a : Int) : Ins := ⟨a, 0, 0, 0, []⟩
def mDead (a o : Int) : Mdl := ⟨[([], [])], [], [⟨0, [], [insL a, insL o, insL 26, insL 11]⟩], [], [], [], [], []⟩
def deadOk (o : Int) : Bool :=
  (funcC (mDead 1 o) 0 2 == (1, 14)) && (moduleC (mDead 0 o) 2 == 0) && (moduleC (mDead 1 o) 2 == 14) && (moduleC (mDead 0 o) 1 == (if richB o then 24 else 0)) &&
  (richB o || (funcC (mDead 1 o) 0 1 == (1, 14) && moduleC (mDead 1 o) 1 == 14))
theorem dead_all : (numsTo 128).all deadOk = true := by decide +kernel
theorem nums_len : (numsTo 128).length = 96 := by decide +kernel
theorem dead_known : funcC (mDead 65 106) 0 2 = (1, 14) ∧ moduleC (mDead 0 106) 1 = 0 ∧ moduleC (mDead 0 106) 3 = 1 ∧ moduleC ⟨[], [], [], [], [], [], [], []⟩ 1 = 0 := by decide +kernel
end
end Go.Proofs.YteohmkceapblkaaDoor
