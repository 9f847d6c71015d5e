/-
  Contracts of match's functions but Of and Find: divides, pair; blocks that lie in a row.
  Contract of match.pair.
  Contract of match.Of.
  Contracts of Find, the code's and the document's.
  Code that the statements make: rows of instructions of which the number alone is told. 'known'.
-/
import Derived.Test.YtdfonjnplmfhfaaKrow
import Derived.Test.YtdfonjnplmfhfaaJA
import Derived.Test.YtdfonjnplmfhfaaOi
import Derived.OneCell
namespace Go.Proofs.Ytdfonjnplmfhfaa
open Go.RowKit

/-! ### Blocks in a row -/
def spCells (s : Sp) : List Value := [.int .i64 s.1, .int .i64 s.2.1, .int .i64 s.2.2]
def flatS (l : List Sp) : List Value := l.flatMap spCells
theorem flatS_length (l : List Sp) : (flatS l).length = l.length * 3 := by
  induction l with
  | nil => rfl
  | cons x l ih => simp only [flatS, List.flatMap_cons, List.length_append, spCells, List.length_cons, List.length_nil] at ih ⊢; omega
theorem flatS_snoc (l : List Sp) (x : Sp) : flatS (l ++ [x]) = flatS l ++ spCells x := by simp [flatS]
theorem flatS_cons (x : Sp) (l : List Sp) : flatS (x :: l) = spCells x ++ flatS l := by simp [flatS]
theorem spAt_cons (x : Sp) (l : List Sp) (k : Nat) : spAt (x :: l) (k + 1) = spAt l k := rfl
theorem flatS_at (l : List Sp) : ∀ k, k < l.length → (flatS l)[k * 3]? = some (.int .i64 (spAt l k).1) ∧ (flatS l)[k * 3 + 1]? = some (.int .i64 (spAt l k).2.1) ∧ (flatS l)[k * 3 + 2]? = some (.int .i64 (spAt l k).2.2) := by
  induction l with
  | nil => intro k h; simp at h
  | cons x l ih =>
    intro k h
    rw [flatS_cons]
    cases k with
    | zero => exact ⟨rfl, rfl, rfl⟩
    | succ k =>
      have h3 : (spCells x).length = 3 := rfl
      rw [List.getElem?_append_right (by rw [h3]; omega), List.getElem?_append_right (by rw [h3]; omega), List.getElem?_append_right (by rw [h3]; omega), h3, show (k + 1) * 3 - 3 = k * 3 by omega, show (k + 1) * 3 + 1 - 3 = k * 3 + 1 by omega, show (k + 1) * 3 + 2 - 3 = k * 3 + 2 by omega]
      exact ih k (by simp at h; omega)
theorem flatS_set (l : List Sp) : ∀ (k : Nat) (e z : Int), k < l.length → flatS (l.set k ((spAt l k).1, e, (spAt l k).2.2)) = (flatS l).set (k * 3 + 1) (.int .i64 e) ∧ flatS (l.set k ((spAt l k).1, (spAt l k).2.1, z)) = (flatS l).set (k * 3 + 2) (.int .i64 z) := by
  induction l with
  | nil => intro k e z h; simp at h
  | cons x l ih =>
    intro k e z h
    cases k with
    | zero => simp only [List.set_cons_zero, flatS_cons]; exact ⟨rfl, rfl⟩
    | succ k =>
      have h3 : (spCells x).length = 3 := rfl
      obtain ⟨h1, h2⟩ := ih k e z (by simp at h; omega)
      simp only [List.set_cons_succ, flatS_cons, spAt_cons, h1, h2]
      rw [List.set_append_right _ _ (by rw [h3]; omega), List.set_append_right _ _ (by rw [h3]; omega), h3, show (k + 1) * 3 + 1 - 3 = k * 3 + 1 by omega, show (k + 1) * 3 + 2 - 3 = k * 3 + 2 by omega]
      exact ⟨rfl, rfl⟩

/-- Code that lies at A: so many instructions, whose numbers ops tells. -/
def CodeAt (w : World) (A : Option Addr) (m : Nat) (ops : List Int) : Prop :=
  0 < m → ∃ g o : Nat, A = some ⟨g, o, none⟩ ∧ g < w.heap.size ∧ ∀ j, j < m → ∃ (u1 u2 u3 : Int) (Al : Option Addr) (nl cl : Nat), w.cell? ⟨g, o + j * 5, none⟩ = some (.int .i64 (ops.getD j 0)) ∧ w.cell? ⟨g, o + j * 5 + 1, none⟩ = some (.int .i64 u1) ∧ w.cell? ⟨g, o + j * 5 + 2, none⟩ = some (.int .i64 u2) ∧ w.cell? ⟨g, o + j * 5 + 3, none⟩ = some (.int .u64 u3) ∧ w.cell? ⟨g, o + j * 5 + 4, none⟩ = some (.slice Al nl cl)
theorem CodeAt.below {w w' : World} {A : Option Addr} {m : Nat} {ops : List Int} (h : CodeAt w A m ops) (hb : Below w.heap.size w w') : CodeAt w' A m ops := fun hm => by
  obtain ⟨g, o, e, hg, hc⟩ := h hm
  refine ⟨g, o, e, Nat.lt_of_lt_of_le hg hb.size, fun j hj => ?_⟩
  obtain ⟨u1, u2, u3, Al, nl, cl, h0, h1, h2, h3, h4⟩ := hc j hj
  exact ⟨u1, u2, u3, Al, nl, cl, (hb.cell (p := ⟨g, o + j * 5, none⟩) hg).trans h0, (hb.cell (p := ⟨g, o + j * 5 + 1, none⟩) hg).trans h1, (hb.cell (p := ⟨g, o + j * 5 + 2, none⟩) hg).trans h2, (hb.cell (p := ⟨g, o + j * 5 + 3, none⟩) hg).trans h3, (hb.cell (p := ⟨g, o + j * 5 + 4, none⟩) hg).trans h4⟩
theorem CodeAt.less {w : World} {A : Option Addr} {m k : Nat} {ops : List Int} (h : CodeAt w A m ops) (hk : k ≤ m) : CodeAt w A k ops := fun h0 => by
  obtain ⟨g, o, e, hg, hc⟩ := h (by omega)
  exact ⟨g, o, e, hg, fun j hj => hc j (by omega)⟩

/-! ### One step -/
section
variable {ops : List Int} {z : Int} {i : Nat} {s : MSt}
theorem mstep_open (h : opensB (ops.getD i 0) = true) : mstep ops z i s = some ⟨s.out ++ [((i : Int), -1, z)], s.op ++ [s.out.length], max s.deep (s.op.length + 1)⟩ := by
  unfold mstep; rw [if_pos (of_decide_eq_true h)]
theorem mstep_none {i : Nat} (h : (ops.getD i 0 = 5 ∨ ops.getD i 0 = 11) ∧ s.op = []) : mstep ops z i s = none := by
  unfold mstep; rw [if_neg (by omega), h.2]
  rcases h.1 with h | h
  · rw [if_pos h]; rfl
  · rw [if_neg (by omega), if_pos h]; rfl
theorem mstep_bad {k : Nat} {t : List Nat} (h5 : ops.getD i 0 = 5) (ho : s.op = t ++ [k]) (hb : decide (ops.getD (spAt s.out k).1.toNat 0 = 4 ∧ (spAt s.out k).2.1 = -1) = false) : mstep ops z i s = none := by
  unfold mstep; rw [if_neg (by omega), if_pos h5, ho, List.getLast?_concat]; simp only; rw [if_neg (of_decide_eq_false hb)]
theorem mstep_else {k : Nat} {t : List Nat} (h5 : ops.getD i 0 = 5) (ho : s.op = t ++ [k]) (hb : decide (ops.getD (spAt s.out k).1.toNat 0 = 4 ∧ (spAt s.out k).2.1 = -1) = true) : mstep ops z i s = some ⟨s.out.set k ((spAt s.out k).1, (i : Int), (spAt s.out k).2.2), s.op, s.deep⟩ := by
  unfold mstep; rw [if_neg (by omega), if_pos h5]
  have e : s.op.getLast? = some k := by rw [ho, List.getLast?_concat]
  rw [e]; simp only; rw [if_pos (of_decide_eq_true hb)]
theorem mstep_end {k : Nat} {t : List Nat} (h11 : ops.getD i 0 = 11) (ho : s.op = t ++ [k]) : mstep ops z i s = some ⟨s.out.set k ((spAt s.out k).1, (spAt s.out k).2.1, (i : Int)), t, s.deep⟩ := by
  unfold mstep; rw [if_neg (by omega), if_neg (by omega), if_pos h11, ho, List.getLast?_concat]; simp
theorem mstep_other (h1 : opensB (ops.getD i 0) = false) (h2 : ops.getD i 0 ≠ 5) (h3 : ops.getD i 0 ≠ 11) : mstep ops z i s = some s := by
  unfold mstep; rw [if_neg (of_decide_eq_false h1), if_neg h2, if_neg h3]
end
theorem mrun_succ {ops : List Int} {z : Int} {i : Nat} {s : MSt} (h : mrun ops z i = some s) : mrun ops z (i + 1) = mstep ops z i s := by
  show (mrun ops z i).bind _ = _; rw [h]; rfl
theorem list_end {l : List Nat} (h : 0 < l.length) : ∃ t k, l = t ++ [k] ∧ l.length = t.length + 1 := by
  rcases List.eq_nil_or_concat l with rfl | ⟨t, x, rfl⟩
  · simp at h
  · exact ⟨t, x, by simp, by simp⟩

/-! ### divides -/
set_option maxRecDepth 10000 in
theorem divides_any (w : World) (A : Option Addr) (m c : Nat) (ops : List Int) (hc : CodeAt w A m ops) (a : Nat) (ha : a < m) (hm : m ≤ 1000000) (e z : Int) :
    Calls Try.prog 21 #[.slice A m c, .agg #[.int .i64 (a : Int), .int .i64 e, .int .i64 z]] w (BoolPost (decide (ops.getD a 0 = 4 ∧ e = -1)) w) := by
  obtain ⟨g, o, rfl, hg, hcell⟩ := hc (by omega)
  obtain ⟨_, _, _, _, _, _, h0, _⟩ := hcell a ha
  have k0 : (w.alloc (.cells #[.int .i64 (a : Int), .int .i64 e, .int .i64 z] 45)).cell? ⟨g, o + a * 5, none⟩ = some (.int .i64 (ops.getD a 0)) := by rw [World.cell?_alloc_lt _ _ _ (by exact hg)]; exact h0
  clear hcell h0 hc
  generalize ops.getD a 0 = op at k0 ⊢
  by_cases h4 : op = 4
  · have d4 : (op == 4) = true := by simpa using h4
    by_cases he : e = -1
    · have de : (e == -1) = true := by simpa using he
      rw [show decide (op = 4 ∧ e = -1) = true from decide_eq_true ⟨h4, he⟩]
      clear h4 he
      go_enter Try.func21, Try.ntmps21
      go_wp2
      go_ret
      exact ⟨rfl, (Below.refl _ _).alloc (Nat.le_refl _) _⟩
    · have de : (e == -1) = false := by simpa using he
      rw [show decide (op = 4 ∧ e = -1) = false from decide_eq_false (fun h => he h.2)]
      clear h4 he
      go_enter Try.func21, Try.ntmps21
      go_wp2
      go_ret
      exact ⟨rfl, (Below.refl _ _).alloc (Nat.le_refl _) _⟩
  · have d4 : (op == 4) = false := by simpa using h4
    rw [show decide (op = 4 ∧ e = -1) = false from decide_eq_false (fun h => h4 h.1)]
    clear h4
    go_enter Try.func21, Try.ntmps21
    go_wp2
    go_ret
    exact ⟨rfl, (Below.refl _ _).alloc (Nat.le_refl _) _⟩
end Go.Proofs.Ytdfonjnplmfhfaa
namespace Go.Proofs.Ytdfonjnplmfhfaa
open Go.RowKit

theorem Try.infoSpan : (Try.prog.info? 45).map (fun i => (i.zero, i.size, i.bytes)) = some (some (.agg #[.int .i64 0, .int .i64 0, .int .i64 0]), 3, 24) := by kernel_rfl
def natV (k : Nat) : Value := .int .i64 (k : Int)
/-- What pair leaves. -/
def PairPost (ops : List Int) (m : Nat) (w : World) (e : Ending) (w' : World) : Prop :=
  match mrun ops 0 m with
  | none => e = .returned (.tuple #[.slice none 0 0, .int .i64 0, .bool false]) ∧ Below w.heap.size w w'
  | some s => ∃ v, e = .returned (.tuple #[v, .int .i64 (s.deep : Int), .bool (decide (s.op.length = 0))]) ∧ w'.ownsRow 0 45 3 v s.out.length (flatS s.out) ∧ (∀ g, v.ownBlock = some g → w.heap.size ≤ g) ∧ Below w.heap.size w w'
theorem pair_none {ops : List Int} {m k : Nat} {w w' : World} (h : mrun ops 0 k = none) (hk : k ≤ m) (hb : Below w.heap.size w w') : PairPost ops m w (.returned (.tuple #[.slice none 0 0, .int .i64 0, .bool false])) w' := by
  unfold PairPost; rw [mrun_none h m hk]; exact ⟨rfl, hb⟩
/-- Both rows while pair runs. -/
structure Two (T : TypeId) (w wr : World) (sp op : Value) (s : MSt) : Prop where
  so : wr.ownsRow 0 T 3 sp s.out.length (flatS s.out)
  po : wr.ownsRow 0 3 1 op s.op.length (s.op.map natV)
  sn : ∀ g, sp.ownBlock = some g → w.heap.size ≤ g ∧ op.ownBlock ≠ some g
  pn : ∀ g, op.ownBlock = some g → w.heap.size ≤ g
  bel : Below w.heap.size w wr
theorem Two.below {T : TypeId} {w wr w' : World} {sp op : Value} {s : MSt} (h : Two T w wr sp op s) (hb : Below wr.heap.size wr w') : Two T w w' sp op s := ⟨owns_below h.so hb, owns_below h.po hb, h.sn, h.pn, below_then h.bel hb⟩
theorem Two.alloc {T : TypeId} {w wr : World} {sp op : Value} {s : MSt} (h : Two T w wr sp op s) (o : Obj) : Two T w (wr.alloc o) sp op s := h.below ((Below.refl _ _).alloc (Nat.le_refl _) o)
/-- One more open. -/
theorem Two.pushP {T : TypeId} {w wr w' : World} {sp op v : Value} {s : MSt} (h : Two T w wr sp op s) (hg : wr.grownBy w' op.ownBlock) (hat : v.ownBlock = op.ownBlock ∨ v.ownBlock = some wr.heap.size) :
    w'.ownsRow 0 T 3 sp s.out.length (flatS s.out) ∧ (∀ g, sp.ownBlock = some g → w.heap.size ≤ g ∧ v.ownBlock ≠ some g) ∧ (∀ g, v.ownBlock = some g → w.heap.size ≤ g) ∧ Below w.heap.size w w' := by
  refine ⟨h.so.kept hg ?_, fun g hg' => ⟨(h.sn g hg').1, fun e => ?_⟩, fun g hg' => ?_, h.bel.grown hg h.bel.size h.pn⟩
  · cases hs : sp.ownBlock with
    | none => exact .inl rfl
    | some g => exact .inr fun e => (h.sn g hs).2 e.symm
  · rcases hat with h1 | h1
    · exact (h.sn g hg').2 (h1 ▸ e)
    · have e2 := h1.symm.trans e
      simp only [Option.some.injEq] at e2
      have := (h.so.lt g hg').2
      omega
  · rcases hat with h1 | h1
    · exact h.pn g (h1 ▸ hg')
    · have e2 := h1.symm.trans hg'
      simp only [Option.some.injEq] at e2
      have := h.bel.size
      omega
theorem Two.pushS {T : TypeId} {w wr w' : World} {sp op v : Value} {k : Nat} {os : List Value} (hpo : wr.ownsRow 0 3 1 op k os) (hsn : ∀ g, sp.ownBlock = some g → w.heap.size ≤ g ∧ op.ownBlock ≠ some g) (hpn : ∀ g, op.ownBlock = some g → w.heap.size ≤ g) (hb : Below w.heap.size w wr)
    {m : Nat} {xs : List Value} (ho : w'.ownsRow 0 T 3 v m xs) (hg : wr.grownBy w' sp.ownBlock) (hat : v.ownBlock = sp.ownBlock ∨ v.ownBlock = some wr.heap.size) (t : MSt) (h1 : t.out.length = m) (h2 : flatS t.out = xs) (h3 : t.op.length = k) (h4 : t.op.map natV = os) : Two T w w' v op t := by
  have hne : op.ownBlock = none ∨ op.ownBlock ≠ sp.ownBlock := by
    cases hs : op.ownBlock with
    | none => exact .inl rfl
    | some g => exact .inr fun e => (hsn g e.symm).2 hs
  refine ⟨by rw [h1, h2]; exact ho, by rw [h3, h4]; exact hpo.kept hg hne, fun g hg' => ?_, hpn, hb.grown hg hb.size fun g hg' => (hsn g hg').1⟩
  · rcases hat with h5 | h5
    · exact hsn g (h5 ▸ hg')
    · have e2 := h5.symm.trans hg'
      simp only [Option.some.injEq] at e2
      have := hb.size
      refine ⟨by omega, fun e => ?_⟩
      have := (hpo.lt g e).2
      omega
/-- A place of a block is written. -/
theorem Two.put {T : TypeId} {w wr : World} {g n c : Nat} {op op' : Value} {s t : MSt} (h : Two T w wr (.slice (some ⟨g, 0, none⟩) n c) op s) (j : Nat) (u : Value) (h1 : t.out.length = s.out.length) (h2 : flatS t.out = (flatS s.out).set j u)
    (hop : op'.ownBlock = op.ownBlock) (hpo : wr.ownsRow 0 3 1 op' t.op.length (t.op.map natV)) : Two T w (wr.setCell ⟨g, j, none⟩ u) (.slice (some ⟨g, 0, none⟩) n c) op' t := by
  have hn : n = s.out.length := by
    rcases h.so.2 with ⟨h, _⟩ | ⟨g', cap', cur, he, _⟩
    · cases h
    · simp only [Value.slice.injEq] at he; exact he.2.1
  subst hn
  obtain ⟨h3, _⟩ := h.so.stored j u
  have hgn := h.sn g rfl
  exact ⟨by rw [h1, h2]; exact h3, ownsRow_setCell_other hpo (by rw [hop]; exact hgn.2) u, fun g' hg' => by rw [hop]; exact h.sn g' hg', fun g' hg' => h.pn g' (hop ▸ hg'), h.bel.setCell (by exact hgn.1) u⟩

set_option maxRecDepth 100000 in
set_option maxHeartbeats 2000000 in
theorem pair_any (w : World) (A : Option Addr) (m c : Nat) (ops : List Int) (hc : CodeAt w A m ops) (hm : m ≤ 950000) :
    Calls Try.prog 14 #[.slice A m c] w (PairPost ops m w) := by
  have HC := Lib.hid hc
  clear hc
  go_enter Try.func14, Try.ntmps14
  go_wp2_with fail
  go_loopw [2, 3, 5, 11] (fun sp dp op i wr => ∃ (k : Nat) (s : MSt), k ≤ m ∧ i = .int .i64 (k : Int) ∧ Hid (mrun ops 0 k = some s) ∧ Hid (Two 45 w wr sp op s) ∧ dp = .int .i64 (s.deep : Int) ∧ Hid (s.deep ≤ k)) (fun _ _ _ i _ => m - (intOf i).toNat)
  case atStart => exact ⟨0, ⟨[], [], 0⟩, Nat.zero_le _, rfl, Lib.hid rfl, Lib.hid ⟨World.ownsRow_nil _ _ _ _, World.ownsRow_nil _ _ _ _, (fun g h => by cases h), (fun g h => by cases h), Below.refl _ _⟩, rfl, Lib.hid (Nat.le_refl _)⟩
  case round =>
    obtain ⟨k, s, hk, rfl, HR, HT, rfl, HDP⟩ := hrel
    have HV := Lib.hid (mrun_inv _ _ _ _ HR.out)
    obtain ⟨As, cs, rfl⟩ := owns_slice HT.out.so
    obtain ⟨Ap, cp, rfl⟩ := owns_slice HT.out.po
    have hol : s.op.length ≤ s.out.length := HV.out.opl
    have hsl : s.out.length ≤ k := HV.out.outl
    by_cases hlt : k < m
    case' neg =>
      obtain rfl : k = m := by omega
      have hd0 : decide ((k : Int) < (k : Int)) = false := by simp
      have HP : Hid (∀ wz, Two 45 w wz (.slice As s.out.length cs) (.slice Ap s.op.length cp) s → PairPost ops k w (.returned (.tuple #[.slice As s.out.length cs, .int .i64 (s.deep : Int), .bool (decide (s.op.length = 0))])) wz) := fun wz hz => by
        unfold PairPost; rw [HR.out]; exact ⟨_, rfl, hz.so, fun g hg => (hz.sn g hg).1, hz.bel⟩
      have hbo : (((s.op.length : Nat) : Int) == 0) = decide (s.op.length = 0) := by
        by_cases h0 : s.op.length = 0
        · simp [h0]
        · rw [show decide (s.op.length = 0) = false from decide_eq_false h0]; simpa using h0
      generalize decide (s.op.length = 0) = bo at HP hbo
      have HTW := HT
      generalize s.op.length = no at *
      generalize s.out.length = ns at *
      go_wp2
      go_ret3
      exact HP.out _ HTW.out
    have hd0 : decide ((k : Int) < (m : Int)) = true := by simp; omega
    obtain ⟨g, o, rfl, hg, hcell⟩ := (HC.out.below HT.out.bel) (by omega)
    obtain ⟨u1, u2, u3, Al, nl, cl, k0, k1, k2, k3, k4⟩ := hcell k hlt
    obtain ⟨X, hX⟩ : ∃ X, ops.getD k 0 = X := ⟨_, rfl⟩
    rw [hX] at k0
    have HX := Lib.hid hX
    clear hX hcell
    have HSU := Lib.hid (mrun_succ HR.out)
    have HT1 : Hid (Two 45 w (wr.alloc (.cells #[.int .i64 X, .int .i64 u1, .int .i64 u2, .int .u64 u3, .slice Al nl cl] 43)) (.slice As s.out.length cs) (.slice Ap s.op.length cp) s) := Lib.hid (HT.out.alloc _)
    have b0 : (wr.alloc (.cells #[.int .i64 X, .int .i64 u1, .int .i64 u2, .int .u64 u3, .slice Al nl cl] 43)).cell? ⟨wr.heap.size, 0, none⟩ = some (.int .i64 X) := World.cell?_alloc_new wr _ _ 0
    have HC1 : Hid (CodeAt (wr.alloc (.cells #[.int .i64 X, .int .i64 u1, .int .i64 u2, .int .u64 u3, .slice Al nl cl] 43)) (some ⟨g, o, none⟩) m ops) := Lib.hid (HC.out.below (HT1.out.bel))
    have HOP := Lib.hid (fun wz => opens_any X wz)
    have HOX := Lib.hid (show opensB (ops.getD k 0) = opensB X by rw [HX.out])
    go_wp2_with fail
    go_at_call 20
    refine (HOP.out _).mono ?_
    rintro e w' ⟨rfl, rfl⟩
    clear HOP k0 k1 k2 k3 k4
    generalize wr.alloc (.cells #[.int .i64 X, .int .i64 u1, .int .i64 u2, .int .u64 u3, .slice Al nl cl] 43) = W1 at HT1 b0 HC1 ⊢
    generalize hob : opensB X = ob at HOX ⊢
    have HOB := Lib.hid hob
    clear hob
    cases ob
    case' true =>
      have HN := Lib.hid (HSU.out.trans (mstep_open HOX.out))
      clear HSU b0 HT
      go_wp2_with (at_builtin; first
        | (refine wpList_append_row rfl (.tmp 23) (.tmp 26) 22 3 rfl _ 1 8 Try.underlying22 Try.infoInt rfl (by decide) (by decide) (.slice Ap s.op.length cp) s.op.length (s.op.map natV) (by rfl) ((HT1.out.alloc _).po) _ 1 [natV s.out.length] (by rfl) (by rfl) (news_new W1 _ _ 1 1) (by simp [natV, Value.oneCell']) (by omega) ?_; intro v1 wa ho1 hg1 ha1; obtain ⟨q1, q2, q3, q4⟩ := (HT1.out.alloc _).pushP hg1 ha1; have Q1 := Lib.hid q1; have Q2 := Lib.hid q2; have Q3 := Lib.hid q3; have Q4 := Lib.hid q4; clear q1 q2 q3 q4; obtain ⟨B1, c1, rfl⟩ := owns_slice ho1)
        | (refine wpList_append_row rfl (.tmp 28) (.tmp 31) 37 45 rfl _ 3 24 Try.underlying37 Try.infoSpan rfl (by decide) (by decide) (.slice As s.out.length cs) s.out.length (flatS s.out) (by rfl) (Q1.out.alloc _) _ 1 (spCells ((k : Int), -1, 0)) (by rfl) (by rfl) (news_new wa _ _ 1 1) (by simp [spCells, Value.oneCell']) (by omega) ?_; intro v2 wb ho2 hg2 ha2; obtain ⟨B2, c2, rfl⟩ := owns_slice ho2))
      go_roundw
      case rel =>
        refine ⟨k + 1, ⟨s.out ++ [((k : Int), -1, 0)], s.op ++ [s.out.length], max s.deep (s.op.length + 1)⟩, by omega, by go_num, HN, Lib.hid (Two.pushS (ho1.alloc _) Q2.out Q3.out ((below_new Q4.out _)) ho2 hg2 ha2 _ (by simp) (flatS_snoc _ _) (by simp) (by simp)), ?_, Lib.hid ?_⟩
        · simp only [Value.int.injEq, true_and]
          by_cases hmx : s.deep < s.op.length + 1
          · rw [if_pos (by omega), Nat.max_eq_right (by omega)]; omega
          · rw [if_neg (by omega), Nat.max_eq_left (by omega)]
        · have := HDP.out; show max s.deep (s.op.length + 1) ≤ _; omega
      case measure => simp [intOf]; omega
    have hX5 : X = 5 ∨ X = 11 ∨ (X ≠ 5 ∧ X ≠ 11) := by omega
    rcases hX5 with rfl | rfl | ⟨hn5, hn11⟩
    case' inr.inr =>
      have HN := Lib.hid (HSU.out.trans (mstep_other HOX.out (by rw [HX.out]; exact hn5) (by rw [HX.out]; exact hn11)))
      have d5 : (X == 5) = false := by simpa using hn5
      have d11 : (X == 11) = false := by simpa using hn11
      clear hn5 hn11
      go_wp2
      go_roundw
      case rel => exact ⟨k + 1, s, by omega, by go_num, HN, HT1, rfl, Lib.hid (by have := HDP.out; omega)⟩
      case measure => simp [intOf]; omega
    all_goals
      obtain ⟨no, hno⟩ : ∃ no, s.op.length = no := ⟨_, rfl⟩
      rw [hno] at HT1 hol ⊢
      have HNO := Lib.hid hno
      clear hno HT
      rcases Nat.eq_zero_or_pos no with h0 | h0
      case' inl =>
        subst h0
        have HN : Hid (mrun ops 0 (k + 1) = none) := Lib.hid (HSU.out.trans (mstep_none ⟨by rw [HX.out]; simp, List.eq_nil_of_length_eq_zero HNO.out⟩))
        go_wp2
        go_ret3
        exact pair_none HN.out (by omega) HT1.out.bel
      obtain ⟨t, j, htj, htl⟩ := list_end (l := s.op) (by rw [HNO.out]; exact h0)
      obtain ⟨tl, rfl⟩ : ∃ tl, no = tl + 1 := ⟨no - 1, by omega⟩
      have htl2 : t.length = tl := by have := HNO.out; omega
      have hjs : j < s.out.length := HV.out.lt j (by rw [htj]; simp)
      obtain ⟨ha0, hak⟩ := HV.out.a0 j hjs
      obtain ⟨an, hne⟩ : ∃ an : Nat, (spAt s.out j).1 = (an : Int) := ⟨(spAt s.out j).1.toNat, by omega⟩
      have ham : an < m := by omega
      obtain ⟨gp, cp, hpe⟩ : ∃ gp cp', Value.slice Ap (tl + 1) cp = .slice (some ⟨gp, 0, none⟩) (tl + 1) cp' := by
        rcases HT1.out.po.2 with ⟨h, _⟩ | ⟨gp, cap, cur, h, _⟩
        · cases h
        · simp only [Value.slice.injEq] at h
          obtain ⟨rfl, -, rfl⟩ := h
          exact ⟨gp, _, rfl⟩
      obtain ⟨gs, cs', hse⟩ : ∃ gs cs', Value.slice As s.out.length cs = .slice (some ⟨gs, 0, none⟩) s.out.length cs' := by
        rcases HT1.out.so.2 with ⟨h, h2⟩ | ⟨gp, cap, cur, h, _⟩
        · simp only [Value.slice.injEq] at h; omega
        · simp only [Value.slice.injEq] at h
          obtain ⟨rfl, -, rfl⟩ := h
          exact ⟨gp, _, rfl⟩
      simp only [Value.slice.injEq] at hpe hse
      obtain ⟨rfl, -, rfl⟩ := hpe
      obtain ⟨rfl, -, rfl⟩ := hse
      have HCL : Hid (∀ wz, Below W1.heap.size W1 wz → wz.cell? ⟨gp, tl, none⟩ = some (.int .i64 (j : Int)) ∧ wz.cell? ⟨gs, j * 3, none⟩ = some (.int .i64 (an : Int)) ∧ wz.cell? ⟨gs, j * 3 + 1, none⟩ = some (.int .i64 (spAt s.out j).2.1) ∧ wz.cell? ⟨gs, j * 3 + 2, none⟩ = some (.int .i64 (spAt s.out j).2.2) ∧ wz.frozen? ⟨gs, j * 3 + 1, none⟩ = false ∧ wz.frozen? ⟨gs, j * 3 + 2, none⟩ = false) := fun wz hz => by
        have h2 := HT1.out.below hz
        obtain ⟨f1, f2, f3⟩ := flatS_at s.out j hjs
        have hp := h2.po
        rw [HNO.out] at hp
        refine ⟨?_, ?_, ?_, ?_, h2.so.frozenAt _, h2.so.frozenAt _⟩
        · rw [hp.cellAt tl (by omega), htj, ← htl2]; simp [natV]
        · rw [h2.so.cellAt _ (by omega), f1, hne]
        · rw [h2.so.cellAt _ (by omega), f2]
        · rw [h2.so.cellAt _ (by omega), f3]
      have HJS := Lib.hid hjs
      have HTJ := Lib.hid htj
      have HTL := Lib.hid htl2
      have HNE := Lib.hid hne
      clear htj htl htl2 hne h0 ha0 hak
      obtain ⟨kp, ka, ke, kz, kf, kg⟩ := HCL.out W1 (Below.refl _ _)
      obtain ⟨ev, hev⟩ : ∃ ev, (spAt s.out j).2.1 = ev := ⟨_, rfl⟩
      obtain ⟨zv, hzv⟩ : ∃ zv, (spAt s.out j).2.2 = zv := ⟨_, rfl⟩
      rw [hev] at ke
      rw [hzv] at kz
      have HEV := Lib.hid hev
      have HZV := Lib.hid hzv
      clear hev hzv
    case' false.inl.inr =>
      have HDV := Lib.hid (divides_any W1 (some ⟨g, o, none⟩) m c ops HC1.out an ham (by omega) ev zv)
      obtain ⟨db, hdb⟩ : ∃ db, decide (ops.getD an 0 = 4 ∧ ev = -1) = db := ⟨_, rfl⟩
      rw [hdb] at HDV
      have HDB : Hid (decide (ops.getD (spAt s.out j).1.toNat 0 = 4 ∧ (spAt s.out j).2.1 = -1) = db) := by rw [Hid, HNE.out, HEV.out, Int.toNat_natCast]; exact hdb
      clear hdb kf kg
      go_wp2_with fail
      go_at_call 21
      refine HDV.out.mono ?_
      rintro e w2 ⟨rfl, hb2⟩
      obtain ⟨kp2, _, _, _, kf2, _⟩ := HCL.out w2 hb2
      have HT2 := Lib.hid (HT1.out.below hb2)
      have b2 : w2.cell? ⟨wr.heap.size, 0, none⟩ = some (.int .i64 5) := (hb2.cell (p := ⟨wr.heap.size, 0, none⟩) (World.block_lt_of_cell? _ _ b0)).trans b0
      clear HDV hb2 kp ka ke kz b0
      cases db
      case' false =>
        have HN := Lib.hid (HSU.out.trans (mstep_bad HX.out HTJ.out HDB.out))
        go_wp2
        go_ret3
        exact pair_none HN.out (by omega) HT2.out.bel
      have HN := Lib.hid (HSU.out.trans (mstep_else HX.out HTJ.out HDB.out))
      have HPO := Lib.hid (HT2.out.po)
      go_wp2
      go_roundw
      case rel =>
        refine ⟨k + 1, _, by omega, by go_num, HN, Lib.hid (HT2.out.put (j * 3 + 1) (.int .i64 (k : Int)) (by simp) (flatS_set s.out j (k : Int) 0 HJS.out).1 rfl HPO.out), rfl, Lib.hid (by have := HDP.out; show s.deep ≤ _; omega)⟩
      case measure => simp [intOf]; omega
    have HN := Lib.hid (HSU.out.trans (mstep_end HX.out HTJ.out))
    have HPO : Hid (W1.ownsRow 0 3 1 (.slice (some ⟨gp, 0, none⟩) tl cp) t.length (t.map natV)) := by
      have h1 := HT1.out.po
      rw [HNO.out] at h1
      have h2 := owns_cut h1 (Nat.le_succ tl)
      rw [HTJ.out, List.map_append, Nat.mul_one, ← HTL.out, ← List.length_map (f := natV), List.take_left, List.length_map, HTL.out] at h2
      rw [HTL.out]; exact h2
    have htc : tl ≤ cp := by
      rcases HT1.out.po.2 with ⟨h, _⟩ | ⟨gp', cap, cur, h, _, _, h3, _⟩
      · cases h
      · simp only [Value.slice.injEq] at h
        obtain ⟨_, _, rfl⟩ := h
        rw [HNO.out] at h3
        omega
    clear kf
    go_wp2
    go_roundw
    case rel =>
      refine ⟨k + 1, _, by omega, by go_num, HN, Lib.hid (HT1.out.put (j * 3 + 2) (.int .i64 (k : Int)) (by simp) (flatS_set s.out j 0 (k : Int) HJS.out).2 rfl HPO.out), rfl, Lib.hid (by have := HDP.out; show s.deep ≤ _; omega)⟩
    case measure => simp [intOf]; omega
end Go.Proofs.Ytdfonjnplmfhfaa
namespace Go.Proofs.Ytdfonjnplmfhfaa
open Go.RowKit

/-- Blocks that v holds. -/
def SpIn (w : World) (v : Value) (l : List Sp) : Prop :=
  ∃ A c, v = .slice A l.length c ∧ l.length ≤ 950000 ∧ (0 < l.length → ∃ g, A = some ⟨g, 0, none⟩ ∧ g < w.heap.size ∧ ∀ j, j < l.length → w.cell? ⟨g, j * 3, none⟩ = some (.int .i64 (spAt l j).1) ∧ w.cell? ⟨g, j * 3 + 1, none⟩ = some (.int .i64 (spAt l j).2.1) ∧ w.cell? ⟨g, j * 3 + 2, none⟩ = some (.int .i64 (spAt l j).2.2))
theorem SpIn.below {w w' : World} {v : Value} {l : List Sp} (h : SpIn w v l) (hb : Below w.heap.size w w') : SpIn w' v l := by
  obtain ⟨A, c, rfl, h1, h2⟩ := h
  refine ⟨A, c, rfl, h1, fun h0 => ?_⟩
  obtain ⟨g, rfl, hg, hc⟩ := h2 h0
  refine ⟨g, rfl, Nat.lt_of_lt_of_le hg hb.size, fun j hj => ?_⟩
  obtain ⟨a, b, c⟩ := hc j hj
  exact ⟨(hb.cell (p := ⟨g, j * 3, none⟩) hg).trans a, (hb.cell (p := ⟨g, j * 3 + 1, none⟩) hg).trans b, (hb.cell (p := ⟨g, j * 3 + 2, none⟩) hg).trans c⟩
theorem SpIn.nil (w : World) : SpIn w (.slice none 0 0) [] := ⟨none, 0, rfl, Nat.zero_le _, fun h => by simp at h⟩
theorem SpIn.owned {T : TypeId} {w : World} {v : Value} {l : List Sp} (h : w.ownsRow 0 T 3 v l.length (flatS l)) (hl : l.length ≤ 950000) : SpIn w v l := by
  rcases h.2 with ⟨rfl, h0⟩ | ⟨g, cap, cur, rfl, _⟩
  · obtain rfl := List.eq_nil_of_length_eq_zero h0
    exact .nil w
  · refine ⟨_, cap, rfl, hl, fun _ => ⟨g, rfl, (h.lt g rfl).2, fun j hj => ?_⟩⟩
    obtain ⟨f1, f2, f3⟩ := flatS_at l j hj
    exact ⟨by rw [h.cellAt _ (by omega), f1], by rw [h.cellAt _ (by omega), f2], by rw [h.cellAt _ (by omega), f3]⟩
/-- What Of leaves. -/
def OfPost (ops : List Int) (w : World) (e : Ending) (w' : World) : Prop :=
  ∃ v, e = .returned (.tuple #[v, .int .i64 (matchP ops).2]) ∧ SpIn w' v (matchP ops).1 ∧ Below w.heap.size w w'
theorem of_bad {ops : List Int} {n : Int} {w w' : World} (h : matchP ops = ([], n)) (hb : Below w.heap.size w w') : OfPost ops w (.returned (.tuple #[.slice none 0 0, .int .i64 n])) w' :=
  ⟨_, by rw [h], by rw [h]; exact .nil _, hb⟩

set_option maxRecDepth 100000 in
set_option maxHeartbeats 1000000 in
theorem of_any (w : World) (A : Option Addr) (n c : Nat) (ops : List Int) (hc : CodeAt w A n ops) (hn : ops.length = n) (hm : n ≤ 950000) (hcn : n ≤ c) :
    Calls Try.prog 5 #[.slice A n c] w (OfPost ops w) := by
  rcases Nat.eq_zero_or_pos n with h0 | h0
  · subst h0
    have hp : matchP ops = ([], 12) := by unfold matchP; rw [if_pos (.inl hn)]
    clear hc hn
    have HP := Lib.hid hp
    clear hp
    go_enter Try.func5, Try.ntmps5
    go_wp2
    go_ret2
    exact of_bad HP.out (.refl _ _)
  · obtain ⟨l, rfl⟩ : ∃ l, n = l + 1 := ⟨n - 1, by omega⟩
    have hcl := hc.less (Nat.le_succ l)
    obtain ⟨g, o, rfl, hg, hcell⟩ := hc h0
    obtain ⟨_, _, _, _, _, _, k0, _⟩ := hcell l (Nat.lt_succ_self l)
    have HN := Lib.hid hn
    have HCL := Lib.hid hcl
    clear hc hcell hcl hn
    obtain ⟨X, hX⟩ : ∃ X, ops.getD l 0 = X := ⟨_, rfl⟩
    rw [hX] at k0
    have HX := Lib.hid hX
    clear hX
    by_cases h11 : X = 11
    case' neg =>
      have hd : (X == 11) = false := by simpa using h11
      have hd2 : (X != 11) = true := by simpa using h11
      have HP : Hid (matchP ops = ([], 12)) := by
        unfold Hid matchP
        rw [if_pos (.inr (by rw [HN.out, Nat.add_sub_cancel, HX.out]; exact h11))]
      clear h11
      go_enter Try.func5, Try.ntmps5
      go_wp2
      go_ret2
      exact of_bad HP.out (.refl _ _)
    subst h11
    have HPA := Lib.hid (pair_any w (some ⟨g, o, none⟩) l c ops HCL.out (by omega))
    have HM : Hid (matchP ops = match mrun ops 0 l with | none => (([] : List Sp), (12 : Int)) | some s => if s.op ≠ [] then ([], 12) else if 64 < s.deep then ([], 26) else (s.out, 0)) := by
      unfold Hid matchP
      rw [if_neg (by rw [HN.out, Nat.add_sub_cancel, HX.out]; simp), HN.out, Nat.add_sub_cancel]
      cases mrun ops 0 l <;> rfl
    go_enter Try.func5, Try.ntmps5
    have hlc : l ≤ c := by omega
    go_wp2_with fail
    go_at_call 14
    refine HPA.out.mono ?_
    intro e w' hp
    unfold PairPost at hp
    cases hr : mrun ops 0 l with
    | none =>
      rw [hr] at hp
      have hm2 := HM.out
      rw [hr] at hm2
      have HM2 := Lib.hid hm2
      obtain ⟨rfl, hb⟩ := hp
      clear hr hm2 HM HPA
      go_wp2
      go_ret2
      exact of_bad HM2.out hb
    | some s =>
      rw [hr] at hp
      have hm2 := HM.out
      rw [hr] at hm2
      have hv := mrun_inv _ _ _ _ hr
      have hsl : s.out.length ≤ 950000 := by have := hv.outl; omega
      obtain ⟨v, rfl, ho, hnew, hb⟩ := hp
      obtain ⟨Av, cv, rfl⟩ := owns_slice ho
      have HO := Lib.hid (SpIn.owned ho hsl)
      clear hr HM HPA hnew ho hv
      simp only at hm2
      by_cases h1 : s.op.length = 0
      · have h2 : s.op = [] := List.eq_nil_of_length_eq_zero h1
        rw [if_neg (by simp [h2])] at hm2
        have hd1 : decide (s.op.length = 0) = true := by simp [h1]
        rw [hd1]
        clear h1 h2 hd1
        by_cases h3 : 64 < s.deep
        · rw [if_pos h3] at hm2
          have hd3 : decide ((64 : Int) < (s.deep : Int)) = true := by simp; omega
          have HM2 := Lib.hid hm2
          clear hm2 h3
          go_wp2
          go_ret2
          exact of_bad HM2.out hb
        · rw [if_neg h3] at hm2
          have hd3 : decide ((64 : Int) < (s.deep : Int)) = false := by simp; omega
          have HM2 := Lib.hid hm2
          clear hm2 h3
          go_wp2
          go_ret2
          exact ⟨.slice Av s.out.length cv, by rw [HM2.out]; rfl, by rw [HM2.out]; exact HO.out, hb⟩
      · have h2 : s.op ≠ [] := fun e => h1 (by rw [e]; rfl)
        rw [if_pos h2] at hm2
        have hd1 : decide (s.op.length = 0) = false := decide_eq_false h1
        rw [hd1]
        have HM2 := Lib.hid hm2
        clear h1 h2 hd1 hm2
        go_wp2
        go_ret2
        exact of_bad HM2.out hb
end Go.Proofs.Ytdfonjnplmfhfaa
namespace Go.Proofs.Ytdfonjnplmfhfaa
open Go.RowKit

def findP : List Sp → Int → Sp × Bool
  | [], _ => ((0, 0, 0), false)
  | s :: l, at_ => if s.1 = at_ then (s, true) else findP l at_
theorem findP_none (l : List Sp) (a : Int) : (∀ j, j < l.length → (spAt l j).1 ≠ a) → findP l a = ((0, 0, 0), false) := by
  induction l with
  | nil => intro _; rfl
  | cons s l ih =>
    intro h
    unfold findP
    rw [if_neg (show ¬ s.1 = a from h 0 (by simp))]
    exact ih fun j hj => h (j + 1) (by simpa using hj)
theorem findP_at (l : List Sp) (a : Int) : ∀ k, k < l.length → (∀ j, j < k → (spAt l j).1 ≠ a) → (spAt l k).1 = a → findP l a = (spAt l k, true) := by
  induction l with
  | nil => intro k h; simp at h
  | cons s l ih =>
    intro k hk h h0
    unfold findP
    cases k with
    | zero => rw [if_pos (show s.1 = a from h0)]; rfl
    | succ k =>
      rw [if_neg (show ¬ s.1 = a from h 0 (by omega))]
      exact ih k (by simpa using hk) (fun j hj => h (j + 1) (by omega)) h0
def FindPost (l : List Sp) (a : Int) (w : World) (e : Ending) (w' : World) : Prop :=
  e = .returned (.tuple #[.agg #[.int .i64 (findP l a).1.1, .int .i64 (findP l a).1.2.1, .int .i64 (findP l a).1.2.2], .bool (findP l a).2]) ∧ Below w.heap.size w w'

theorem zeroed {w : World} {B : Nat} {T : TypeId} (h : w.heap[B]? = some (.cells #[.int .i64 0, .int .i64 0, .int .i64 0] T (0, 0))) :
    w.frozen? ⟨B, 0, none⟩ = false ∧ w.frozen? ⟨B, 1, none⟩ = false ∧ w.frozen? ⟨B, 2, none⟩ = false ∧ w.cell? ⟨B, 0, none⟩ = some (.int .i64 0) ∧ w.cell? ⟨B, 1, none⟩ = some (.int .i64 0) ∧ w.cell? ⟨B, 2, none⟩ = some (.int .i64 0) := by
  simp [World.frozen?, World.cell?, h]
theorem filled {w : World} {B : Nat} {T : TypeId} (h : w.heap[B]? = some (.cells #[.int .i64 0, .int .i64 0, .int .i64 0] T (0, 0))) (a b c : Value) :
    (((w.setCell ⟨B, 0, none⟩ a).setCell ⟨B, 1, none⟩ b).setCell ⟨B, 2, none⟩ c).cell? ⟨B, 0, none⟩ = some a ∧ (((w.setCell ⟨B, 0, none⟩ a).setCell ⟨B, 1, none⟩ b).setCell ⟨B, 2, none⟩ c).cell? ⟨B, 1, none⟩ = some b ∧ (((w.setCell ⟨B, 0, none⟩ a).setCell ⟨B, 1, none⟩ b).setCell ⟨B, 2, none⟩ c).cell? ⟨B, 2, none⟩ = some c := by
  simp [World.cell?, World.setCell, Array.getElem?_modify, h]
theorem below_three {w0 w : World} {B : Nat} (h : Below w0.heap.size w0 w) (hB : w0.heap.size ≤ B) (a b c : Value) : Below w0.heap.size w0 (((w.setCell ⟨B, 0, none⟩ a).setCell ⟨B, 1, none⟩ b).setCell ⟨B, 2, none⟩ c) :=
  ((h.setCell (by exact hB) a).setCell (by exact hB) b).setCell (by exact hB) c
theorem find_post {l : List Sp} {a : Int} {w w' : World} {s : Sp} {b : Bool} (h : findP l a = (s, b)) (hb : Below w.heap.size w w') : FindPost l a w (.returned (.tuple #[.agg #[.int .i64 s.1, .int .i64 s.2.1, .int .i64 s.2.2], .bool b])) w' := by
  unfold FindPost; rw [h]; exact ⟨rfl, hb⟩
set_option maxRecDepth 100000 in
set_option maxHeartbeats 1000000 in
theorem find_any (w : World) (v : Value) (l : List Sp) (a : Int) (hv : SpIn w v l) : Calls Try.prog 15 #[v, .int .i64 a] w (FindPost l a w) := by
  obtain ⟨A, c, rfl, hl, hcell⟩ := hv
  have HC := Lib.hid hcell
  obtain ⟨n, hn⟩ : ∃ n, l.length = n := ⟨_, rfl⟩
  rw [hn] at hl ⊢
  have HN := Lib.hid hn
  clear hcell hn
  go_enter Try.func15, Try.ntmps15
  go_wp2_with fail
  go_loopw [10] (fun i wr => ∃ k : Nat, k ≤ n ∧ i = .int .i64 (k : Int) ∧ Hid (∀ j, j < k → (spAt l j).1 ≠ a) ∧ Hid (Below w.heap.size w wr) ∧ Hid (wr.heap[w.heap.size]? = some (.cells #[.int .i64 0, .int .i64 0, .int .i64 0] 45 (0, 0)))) (fun i _ => n - (intOf i).toNat)
  case atStart => exact ⟨0, Nat.zero_le _, rfl, Lib.hid (fun j hj => by omega), Lib.hid ((Below.refl _ _).alloc (Nat.le_refl _) _), Lib.hid (heap_alloc_new w _)⟩
  case round =>
    obtain ⟨k, hk, rfl, HJ, HB, HZ⟩ := hrel
    by_cases hlt : k < n
    rotate_left
    · obtain rfl : k = n := by omega
      have hd0 : decide ((k : Int) < (k : Int)) = false := by simp
      have HF := Lib.hid (findP_none l a fun j hj => HJ.out j (by rw [← HN.out]; exact hj))
      obtain ⟨z1, z2, z3, z4, z5, z6⟩ := zeroed HZ.out
      have hfl := filled HZ.out (.int .i64 0) (.int .i64 0) (.int .i64 0)
      have HBW := Lib.hid (below_three HB.out (Nat.le_refl _) (.int .i64 0) (.int .i64 0) (.int .i64 0))
      have HFL := Lib.hid hfl
      clear hfl
      go_wp2
      obtain ⟨f0, f1, f2⟩ := HFL.out
      exact bodyPost_ret (v := .tuple #[.agg #[.int .i64 0, .int .i64 0, .int .i64 0], .bool false]) (by simp [results, Try.results15, go_sem, f0, f1, f2]) rfl (find_post HF.out HBW.out)
    have hd0 : decide ((k : Int) < (n : Int)) = true := by simp; omega
    obtain ⟨g, rfl, hg, hcc⟩ := HC.out (by rw [HN.out]; omega)
    obtain ⟨k0, k1, k2⟩ := hcc k (by rw [HN.out]; exact hlt)
    have e0 := (HB.out.cell (p := ⟨g, k * 3, none⟩) hg).trans k0
    have e1 := (HB.out.cell (p := ⟨g, k * 3 + 1, none⟩) hg).trans k1
    have e2 := (HB.out.cell (p := ⟨g, k * 3 + 2, none⟩) hg).trans k2
    obtain ⟨s, hs⟩ : ∃ s, spAt l k = s := ⟨_, rfl⟩
    rw [hs] at e0 e1 e2
    have HS := Lib.hid hs
    clear hcc k0 k1 k2 hs
    obtain ⟨sa, se, sz⟩ := s
    by_cases hsa : sa = a
    · have hd : (sa == a) = true := by simpa using hsa
      have HF := Lib.hid (findP_at l a k (by rw [HN.out]; exact hlt) HJ.out (by rw [HS.out]; exact hsa))
      clear hsa
      have HZ2 := Lib.hid ((Below.heap_alloc wr (.cells #[.int .i64 sa, .int .i64 se, .int .i64 sz] 45) _ (Array.getElem?_eq_some_iff.1 HZ.out).1).trans HZ.out)
      obtain ⟨z1, z2, z3, z4, z5, z6⟩ := zeroed HZ2.out
      have HFL := Lib.hid (filled HZ2.out (.int .i64 sa) (.int .i64 se) (.int .i64 sz))
      have HBW := Lib.hid (below_three (HB.out.alloc HB.out.size (.cells #[.int .i64 sa, .int .i64 se, .int .i64 sz] 45)) (Nat.le_refl _) (.int .i64 sa) (.int .i64 se) (.int .i64 sz))
      have HF2 : Hid (findP l a = ((sa, se, sz), true)) := by rw [Hid, HF.out, HS.out]
      clear HF
      go_wp2
      obtain ⟨f0, f1, f2⟩ := HFL.out
      exact bodyPost_ret (v := .tuple #[.agg #[.int .i64 sa, .int .i64 se, .int .i64 sz], .bool true]) (by simp [results, Try.results15, go_sem, f0, f1, f2]) rfl (find_post HF2.out HBW.out)
    · have hd : (sa == a) = false := by simpa using hsa
      have HJ2 : Hid (∀ j, j < k + 1 → (spAt l j).1 ≠ a) := fun j hj => by
        rcases Nat.lt_or_ge j k with h | h
        · exact HJ.out j h
        · obtain rfl : j = k := by omega
          rw [HS.out]; exact hsa
      clear hsa
      go_wp2
      go_roundw
      case rel => exact ⟨k + 1, by omega, by go_num, HJ2, Lib.hid (HB.out.alloc HB.out.size _), Lib.hid ((Below.heap_alloc wr _ _ (Array.getElem?_eq_some_iff.1 HZ.out).1).trans HZ.out)⟩
      case measure => simp [intOf]; omega
end Go.Proofs.Ytdfonjnplmfhfaa
namespace Go.Proofs.Ytdfonjnplmfhfaa
open Go.RowKit

def inCells (x : Int) : List Value := [.int .i64 x, .int .i64 0, .int .i64 0, .int .u64 0, .slice none 0 0]
def flatI (l : List Int) : List Value := l.flatMap inCells
theorem flatI_length (l : List Int) : (flatI l).length = l.length * 5 := by
  induction l with
  | nil => rfl
  | cons x l ih => simp only [flatI, List.flatMap_cons, List.length_append, inCells, List.length_cons, List.length_nil] at ih ⊢; omega
theorem flatI_append (a b : List Int) : flatI (a ++ b) = flatI a ++ flatI b := by simp [flatI]
theorem flatI_at (l : List Int) : ∀ k, k < l.length → (flatI l)[k * 5]? = some (.int .i64 (l.getD k 0)) ∧ (flatI l)[k * 5 + 1]? = some (.int .i64 0) ∧ (flatI l)[k * 5 + 2]? = some (.int .i64 0) ∧ (flatI l)[k * 5 + 3]? = some (.int .u64 0) ∧ (flatI l)[k * 5 + 4]? = some (.slice none 0 0) := by
  induction l with
  | nil => intro k h; simp at h
  | cons x l ih =>
    intro k h
    rw [show flatI (x :: l) = inCells x ++ flatI l from rfl]
    cases k with
    | zero => exact ⟨rfl, rfl, rfl, rfl, rfl⟩
    | succ k =>
      have h3 : (inCells x).length = 5 := rfl
      rw [List.getElem?_append_right (by rw [h3]; omega), List.getElem?_append_right (by rw [h3]; omega), List.getElem?_append_right (by rw [h3]; omega), List.getElem?_append_right (by rw [h3]; omega), List.getElem?_append_right (by rw [h3]; omega), h3, show (k + 1) * 5 - 5 = k * 5 by omega, show (k + 1) * 5 + 1 - 5 = k * 5 + 1 by omega, show (k + 1) * 5 + 2 - 5 = k * 5 + 2 by omega, show (k + 1) * 5 + 3 - 5 = k * 5 + 3 by omega, show (k + 1) * 5 + 4 - 5 = k * 5 + 4 by omega]
      exact ih k (by simp at h; omega)
/-- Code that the call owns. -/
theorem codeAt_owned {T : TypeId} {w : World} {base : Nat} {A : Option Addr} {n c : Nat} {ops : List Int} (h : w.ownsRow base T 5 (.slice A n c) n (flatI ops)) (hn : ops.length = n) : CodeAt w A n ops ∧ n ≤ c := by
  rcases h.2 with ⟨h1, h0⟩ | ⟨g, cap, cur, h1, _, _, h2, _⟩
  · simp only [Value.slice.injEq] at h1
    exact ⟨fun h3 => by omega, by omega⟩
  · simp only [Value.slice.injEq] at h1
    obtain ⟨rfl, -, rfl⟩ := h1
    refine ⟨fun _ => ⟨g, 0, rfl, (h.lt g rfl).2, fun j hj => ?_⟩, h2⟩
    obtain ⟨f0, f1, f2, f3, f4⟩ := flatI_at ops j (by omega)
    rw [Nat.zero_add]
    exact ⟨0, 0, 0, none, 0, 0, by rw [h.cellAt _ (by omega), f0], by rw [h.cellAt _ (by omega), f1], by rw [h.cellAt _ (by omega), f2], by rw [h.cellAt _ (by omega), f3], by rw [h.cellAt _ (by omega), f4]⟩
/-- A literal row of code. -/
theorem codeAt_lit (w : World) (cs : Array Value) (T : TypeId) (ops : List Int) (n : Nat) (hn : ops.length = n) (h : cs = (flatI ops).toArray) : CodeAt (w.alloc (.cells cs T)) (some ⟨w.heap.size, 0, none⟩) n ops := fun _ => by
  subst h
  refine ⟨w.heap.size, 0, rfl, by simp, fun j hj => ?_⟩
  obtain ⟨f0, f1, f2, f3, f4⟩ := flatI_at ops j (by omega)
  rw [Nat.zero_add]
  refine ⟨0, 0, 0, none, 0, 0, ?_, ?_, ?_, ?_, ?_⟩ <;> rw [World.cell?_alloc_new, List.getElem?_toArray] <;> assumption
theorem Try.infoInst5 : (Try.prog.info? 43).map (fun i => (i.zero, i.size, i.bytes)) = some (some (.agg #[.int .i64 0, .int .i64 0, .int .i64 0, .int .u64 0, .slice none 0 0]), 5, 56) := by kernel_rfl

set_option maxRecDepth 100000 in
set_option maxHeartbeats 2000000 in
theorem known_any (w : World) : Calls Try.prog 6 #[] w (BoolPost true w) := by
  have HL1 := Lib.hid (codeAt_lit w #[.int .i64 2, .int .i64 0, .int .i64 0, .int .u64 0, .slice none 0 0, .int .i64 11, .int .i64 0, .int .i64 0, .int .u64 0, .slice none 0 0, .int .i64 11, .int .i64 0, .int .i64 0, .int .u64 0, .slice none 0 0] 43 [2, 11, 11] 3 rfl rfl)
  have HP1 : Hid (matchP [2, 11, 11] = ([(0, -1, 1)], 0)) := Lib.hid (by decide)
  have HP2 : Hid (matchP [] = ([], 12)) := Lib.hid (by decide)
  have HP3 : Hid (matchP [5, 11] = ([], 12)) := Lib.hid (by decide)
  have HB1 := Lib.hid ((Below.refl w.heap.size w).alloc (Nat.le_refl _) (.cells #[.int .i64 2, .int .i64 0, .int .i64 0, .int .u64 0, .slice none 0 0, .int .i64 11, .int .i64 0, .int .i64 0, .int .u64 0, .slice none 0 0, .int .i64 11, .int .i64 0, .int .i64 0, .int .u64 0, .slice none 0 0] 43))
  go_enter Try.func6, Try.ntmps6
  go_wp2_with fail
  go_at_call 5
  refine (of_any _ _ 3 3 _ HL1.out rfl (by omega) (by omega)).mono ?_
  rintro e w1 ⟨v1, rfl, hs1, hb1⟩
  rw [HP1.out] at hs1 ⊢
  have HS1 := Lib.hid hs1
  have HBB := Lib.hid (below_then HB1.out hb1)
  obtain ⟨A1, c1, rfl, _, _⟩ := id hs1
  simp only [List.length_singleton] at HS1 ⊢
  clear HL1 HB1 hb1 hs1
  go_wp2_with fail
  go_at_call 5
  refine (of_any _ none 0 0 [] (fun h => by omega) rfl (by omega) (by omega)).mono ?_
  rintro e w2 ⟨v2, rfl, hs2, hb2⟩
  rw [HP2.out] at hs2 ⊢
  obtain ⟨A2, c2, rfl, _, _⟩ := hs2
  have HS2 := Lib.hid (HS1.out.below hb2)
  have HB2 := Lib.hid (below_then HBB.out hb2)
  have HL3 := Lib.hid (codeAt_lit w2 #[.int .i64 5, .int .i64 0, .int .i64 0, .int .u64 0, .slice none 0 0, .int .i64 11, .int .i64 0, .int .i64 0, .int .u64 0, .slice none 0 0] 43 [5, 11] 2 rfl rfl)
  have HB3 := Lib.hid (HB2.out.alloc HB2.out.size (.cells #[.int .i64 5, .int .i64 0, .int .i64 0, .int .u64 0, .slice none 0 0, .int .i64 11, .int .i64 0, .int .i64 0, .int .u64 0, .slice none 0 0] 43))
  have HS3 := Lib.hid (HS2.out.below ((Below.refl _ _).alloc (Nat.le_refl _) (.cells #[.int .i64 5, .int .i64 0, .int .i64 0, .int .u64 0, .slice none 0 0, .int .i64 11, .int .i64 0, .int .i64 0, .int .u64 0, .slice none 0 0] 43)))
  clear HS1 HBB hb2 HS2 HB2
  go_wp2_with fail
  go_at_call 5
  refine (of_any _ _ 2 2 _ HL3.out rfl (by omega) (by omega)).mono ?_
  rintro e w4 ⟨v3, rfl, hs4, hb4⟩
  rw [HP3.out] at hs4 ⊢
  obtain ⟨A4, c4, rfl, _, _⟩ := hs4
  have HS4 := Lib.hid (HS3.out.below hb4)
  have HB4 := Lib.hid (below_then HB3.out hb4)
  clear HL3 HB3 HS3 hb4
  have HF1 := Lib.hid (find_any w4 _ _ 0 HS4.out)
  unfold FindPost at HF1
  rw [show findP [((0 : Int), (-1 : Int), (1 : Int))] 0 = ((0, -1, 1), true) by decide] at HF1
  go_wp2_with fail
  go_at_call 15
  refine HF1.out.mono ?_
  rintro e w5 ⟨rfl, hb5⟩
  have hb6 := below_new hb5 (.cells #[.int .i64 0, .int .i64 (-1), .int .i64 1] 45)
  have HF2 := Lib.hid (find_any _ _ _ 1 (HS4.out.below hb6))
  unfold FindPost at HF2
  rw [show findP [((0 : Int), (-1 : Int), (1 : Int))] 1 = ((0, 0, 0), false) by decide] at HF2
  have HB6 := Lib.hid (below_then HB4.out hb6)
  have HCN := Lib.hid (fun (j : Nat) => World.cell?_alloc_new w5 #[.int .i64 0, .int .i64 (-1), .int .i64 1] 45 j)
  clear HF1 hb5 hb6 HS4 HB4
  go_wp2_with fail
  go_at_call 15
  refine HF2.out.mono ?_
  rintro e w7 ⟨rfl, hb7⟩
  have hlt3 : w5.heap.size < (w5.alloc (.cells #[.int .i64 0, .int .i64 (-1), .int .i64 1] 45)).heap.size := by simp
  have hbb := (hb7.alloc hb7.size (.cells #[.int .i64 0, .int .i64 0, .int .i64 0] 45))
  have k1 := (hbb.cell (p := ⟨w5.heap.size, 1, none⟩) hlt3).trans (HCN.out 1)
  have k2 := (hbb.cell (p := ⟨w5.heap.size, 2, none⟩) hlt3).trans (HCN.out 2)
  simp only [List.getElem?_toArray, List.getElem?_cons_zero, List.getElem?_cons_succ] at k1 k2
  have HB7 := Lib.hid (below_new (below_then HB6.out hb7) (.cells #[.int .i64 0, .int .i64 0, .int .i64 0] 45))
  clear HF2 hb7 HCN hlt3 hbb HB6
  go_wp2
  go_ret
  exact ⟨rfl, HB7.out⟩
end Go.Proofs.Ytdfonjnplmfhfaa
