/-
  Slices of answers and of calls that come in.
-/
import Derived.Test.YtlgfappnlnhddaaHh
import Derived.ChangeSlices
import Derived.WideShapes
import Derived.Carry
import Derived.OpenShut
import Derived.Deep.Slices
namespace Go.Proofs.Ytlgfappnlnhddaa
open Go.RowKit Go.ChangeShapes Go.WideShapes Go.Deep

theorem Try.laidOutAll : laidOutB Try.prog = true := by kernel_rfl
theorem Try.cells_int : Try.prog.cellsOf 3 = 1 := by kernel_rfl
theorem Try.cells_u64 : Try.prog.cellsOf 27 = 1 := by kernel_rfl
theorem Try.cells_bool : Try.prog.cellsOf 4 = 1 := by kernel_rfl
theorem Try.cells_words : Try.prog.cellsOf 24 = 1 := by kernel_rfl
theorem Try.cells_ints : Try.prog.cellsOf 28 = 1 := by kernel_rfl
theorem Try.cells_ans : Try.prog.cellsOf 26 = 2 := by kernel_rfl
theorem Try.cells_ask : Try.prog.cellsOf 30 = 3 := by kernel_rfl
theorem Try.bytes_u64 : Try.prog.bytesOf 27 = 8 := by kernel_rfl
theorem Try.bytes_ans : Try.prog.bytesOf 26 = 32 := by kernel_rfl
/-- The blocks that were there. -/
def lt (w : World) (k : Nat) : Prop := k < w.heap.size
theorem one_at {cs : List Value} {o : Nat} {u : Value} (h : (cs.drop o).take 1 = [u]) : cs[o]? = some u := by
  have h2 := congrArg (fun l => l[0]?) h
  simpa [List.getElem?_take, List.getElem?_drop] using h2
theorem weights_all {H : Type} {P : Program} {e : TypeId} : ∀ {l : List (DataW H)} {d : DataW H}, d ∈ l → ∀ n ∈ DataW.weights P e d, n ∈ DataW.weightsAll P e l
  | x :: r, d, hd, n, hn => by
    simp only [DataW.weightsAll, List.mem_append]
    rcases List.mem_cons.1 hd with rfl | h
    · exact .inl hn
    · exact .inr (weights_all h n hn)
theorem weights_field {H : Type} {P : Program} {t tj : TypeId} {fs : Array Field} {parts : List (DataW H)} {j : Nat} {d : DataW H} (hu : P.underlying t = some (.struct fs)) (ht : (fs.toList.map (·.type))[j]? = some tj) (hd : parts[j]? = some d) {n : Nat} (hn : n ∈ DataW.weights P tj d) : n ∈ DataW.weights P t (.agg parts) := by
  simp only [DataW.weights, hu]
  exact DataW.weights_mem_each ht hd n hn
/-- Each part of it takes so many bytes at most. -/
def Fits {H : Type} (t : TypeId) (d : DataW H) : Prop := ∀ n ∈ DataW.weights Try.prog t d, n ≤ reachBytes
theorem spot_none {W : World} {a : Addr} {u : Value} (c0 : W.cell? (a.add 0) = some u) : a.spot = none := by
  have e : a.add 0 = a := by unfold Addr.add; simp
  rw [e] at c0
  unfold World.cell? at c0
  split at c0
  · split at c0
    · cases c0
    · rename_i h2; simpa using h2
  · cases c0
theorem words_of_trod {H : Type} {enc : TypeId × Value → H} {W : World} {n : Nat} {cs : List Value} {y : DataW H × List MemPlace} (h : DataW.trod enc Try.prog W 0 (fun _ => true) true n 24 cs = some y) (hfy : Fits 24 y.1) :
    ∃ u m f, cs = [u] ∧ WordsF (lt W) W u m f := by
  rcases open_ints Try.underlying24 Try.underlying27 Try.cells_u64 h with ⟨hcs, _⟩ | ⟨a, len, cap, zs, hcs, _, hl, hm, hz, hy, hcell, hwz⟩
  · exact ⟨_, 0, fun _ => 0, hcs, WordsF.nil _ _ _⟩
  · simp only [if_true] at hz
    have hfit : len * 8 ≤ 140737488355328 := by
      subst hy
      have h9 := hfy _ (by simp only [DataW.weights, Try.underlying24]; exact List.mem_cons_self ..)
      rw [Try.bytes_u64] at h9
      have e1 : (lits (H := H) .u64 (zs.take len)).length = len := by simp [lits]; omega
      unfold reachBytes at h9
      simp only [e1] at h9
      omega
    have hw : ∀ j, j < len → 0 ≤ zs.getD j 0 ∧ zs.getD j 0 ≤ 18446744073709551615 := fun j hj => by
      have hj2 : j < zs.length := by omega
      have e2 : zs.getD j 0 = zs[j] := by rw [List.getD_eq_getElem?_getD, List.getElem?_eq_getElem hj2]; rfl
      have h8 := hwz _ (List.getElem_mem hj2)
      simp only [Lit.wf, Bool.and_eq_true, decide_eq_true_eq] at h8
      have h9 := bounds_u64 (n := zs[j]) (by simp only [Lit.wf, Bool.and_eq_true, decide_eq_true_eq]; exact h8)
      rw [e2]; omega
    refine ⟨_, len, fun j => (zs.getD j 0).toNat, hcs, some a, cap, rfl, hfit, fun j hj => by have := hw j hj; show (zs.getD j 0).toNat < _; omega, fun h0 => ?_⟩
    have hspot := spot_none (hcell 0 (by omega))
    obtain ⟨g, o, sp⟩ := a
    obtain rfl : sp = none := hspot
    have c0 := hcell 0 (by omega)
    refine ⟨g, o, rfl, show g < W.heap.size from World.block_lt_of_cell? W _ (by rw [Addr.add_lit] at c0; exact c0), fun j hj => ?_⟩
    have cj := hcell j (by omega)
    rw [Addr.add_lit] at cj
    rw [cj]
    unfold wrd
    rw [Int.toNat_of_nonneg (hw j hj).1]
theorem ints_of_trod {H : Type} {enc : TypeId × Value → H} {W : World} {n : Nat} {cs : List Value} {y : DataW H × List MemPlace} (h : DataW.trod enc Try.prog W 0 (fun _ => true) true n 28 cs = some y) :
    ∃ u l, cs = [u] ∧ IntsK (lt W) W u l := by
  rcases open_ints Try.underlying28 Try.underlying3 Try.cells_int h with ⟨hcs, _⟩ | ⟨a, len, cap, zs, hcs, _, hl, hm, hz, hy, hcell, hwz⟩
  · exact ⟨_, [], hcs, IntsK.nil _ W⟩
  · simp only [if_true] at hz
    have hlen : (zs.take len).length = len := by rw [List.length_take]; omega
    refine ⟨_, zs.take len, hcs, some a, cap, by rw [hlen], by rw [hlen]; omega, (fun h => by cases h), fun h0 => ?_⟩
    rw [hlen] at h0
    have hspot := spot_none (hcell 0 (by omega))
    obtain ⟨g, o, sp⟩ := a
    obtain rfl : sp = none := hspot
    have c0 := hcell 0 (by omega)
    refine ⟨g, o, rfl, show g < W.heap.size from World.block_lt_of_cell? W _ (by rw [Addr.add_lit] at c0; exact c0), fun j hj => ?_⟩
    rw [hlen] at hj
    have cj := hcell j (by omega)
    rw [Addr.add_lit] at cj
    rw [cj, List.getD_eq_getElem?_getD, List.getD_eq_getElem?_getD, List.getElem?_take, if_pos hj]
theorem some_at {α : Type} {l : List α} {n i : Nat} (h : l.length = n) (hi : i < n) : ∃ y, l[i]? = some y := ⟨_, List.getElem?_eq_getElem (by omega)⟩
/-- The cells of an answer. -/
theorem ans_of_trod {H : Type} {enc : TypeId × Value → H} {W : World} {n : Nat} {cs : List Value} {y : DataW H × List MemPlace} (h : DataW.trod enc Try.prog W 0 (fun _ => true) true n 26 cs = some y) (hfy : Fits 26 y.1) :
    ∃ a : Ans, (∃ u, cs[0]? = some u ∧ WordsF (lt W) W u a.n a.f) ∧ cs[1]? = some (.bool a.trap) := by
  obtain ⟨xs, n1, _, hy, hl, hx, hf⟩ := DataW.trod_struct Try.underlying26 h
  have hx2 : xs.length = 2 := hx
  obtain ⟨y0, hy0⟩ := some_at hx2 (show 0 < 2 by decide)
  obtain ⟨y1, hy1⟩ := some_at hx2 (show 1 < 2 by decide)
  have h0 : DataW.trod enc Try.prog W 0 (fun _ => true) true n1 24 ((cs.drop 0).take (Try.prog.cellsOf 24)) = some y0 := (hf 0 _ rfl).trans hy0
  have h1 : DataW.trod enc Try.prog W 0 (fun _ => true) true n1 4 ((cs.drop 1).take (Try.prog.cellsOf 4)) = some y1 := (hf 1 _ rfl).trans hy1
  rw [Try.cells_words] at h0
  rw [Try.cells_bool] at h1
  obtain ⟨u, m, f, hu, hw⟩ := words_of_trod h0 fun n hn => hfy n (by
    subst hy
    exact weights_field (j := 0) (d := y0.1) Try.underlying26 rfl (by simp [hy0]) hn)
  obtain ⟨b, hb, _⟩ := DataW.trod_bool Try.underlying4 h1
  exact ⟨⟨m, f, b⟩, ⟨u, one_at hu, hw⟩, one_at hb⟩
/-- The cells of a call. -/
theorem ask_of_trod {H : Type} {enc : TypeId × Value → H} {W : World} {n : Nat} {cs : List Value} {y : DataW H × List MemPlace} (h : DataW.trod enc Try.prog W 0 (fun _ => true) true n 30 cs = some y) (hfy : Fits 30 y.1) :
    ∃ q : Qst, cs[0]? = some (.int .i64 q.idx) ∧ (∃ u, cs[1]? = some u ∧ WordsF (lt W) W u q.n q.f) ∧ ∃ u, cs[2]? = some u ∧ IntsK (lt W) W u q.T := by
  obtain ⟨xs, n1, _, hy, hl, hx, hf⟩ := DataW.trod_struct Try.underlying30 h
  have hx3 : xs.length = 3 := hx
  obtain ⟨y0, hy0⟩ := some_at hx3 (show 0 < 3 by decide)
  obtain ⟨y1, hy1⟩ := some_at hx3 (show 1 < 3 by decide)
  obtain ⟨y2, hy2⟩ := some_at hx3 (show 2 < 3 by decide)
  have h0 : DataW.trod enc Try.prog W 0 (fun _ => true) true n1 3 ((cs.drop 0).take (Try.prog.cellsOf 3)) = some y0 := (hf 0 _ rfl).trans hy0
  have h1 : DataW.trod enc Try.prog W 0 (fun _ => true) true n1 24 ((cs.drop 1).take (Try.prog.cellsOf 24)) = some y1 := (hf 1 _ rfl).trans hy1
  have h2 : DataW.trod enc Try.prog W 0 (fun _ => true) true n1 28 ((cs.drop 2).take (Try.prog.cellsOf 28)) = some y2 := (hf 2 _ rfl).trans hy2
  rw [Try.cells_int] at h0
  rw [Try.cells_words] at h1
  rw [Try.cells_ints] at h2
  obtain ⟨z, hz, _⟩ := DataW.trod_int Try.underlying3 h0
  obtain ⟨u, m, f, hu, hw⟩ := words_of_trod h1 fun n hn => hfy n (by
    subst hy
    exact weights_field (j := 1) (d := y1.1) Try.underlying30 rfl (by simp [hy1]) hn)
  obtain ⟨u2, T, hu2, hT⟩ := ints_of_trod h2
  exact ⟨⟨z, m, f, T⟩, one_at hz, ⟨u, one_at hu, hw⟩, u2, one_at hu2, hT⟩
/-- Things of which each can be told, as a function. -/
theorem fun_of {α : Type} (d : α) (P : Nat → α → Prop) : ∀ n, (∀ i, i < n → ∃ x, P i x) → ∃ f : Nat → α, ∀ i, i < n → P i (f i)
  | 0, _ => ⟨fun _ => d, fun _ h => absurd h (Nat.not_lt_zero _)⟩
  | n + 1, h => by
    obtain ⟨f, h2⟩ := fun_of d P n fun i hi => h i (by omega)
    obtain ⟨x, hx⟩ := h n (by omega)
    refine ⟨fun i => if i = n then x else f i, fun i hi => ?_⟩
    by_cases e : i = n
    · subst e; simpa using hx
    · simp only [e, if_false]; exact h2 i (by omega)
set_option maxRecDepth 100000 in
theorem open_answers {H : Type} {enc : TypeId × Value → H} {W : World} {r : Reach} {b0 : Nat} {v : Value} {d : DataW H} {ps : List MemPlace} (hval : Value.okWide Try.prog W r b0 22 v)
    (h : DataW.Trod enc Try.prog W 0 (fun _ => true) true 22 v d ps) (hz : Fits 22 d) : ∃ N L, AnsF (lt W) W v N L := by
  obtain ⟨a0, len, cap, rfl⟩ := okWide_slice Try.underlying22 hval
  obtain ⟨fuel, hf⟩ := h
  rcases open_slice Try.underlying22 hf with ⟨hcs, _⟩ | ⟨a, len', cap', m, n, D, Pl, hcs, _, hl, hm, hmm, hx, hi⟩
  · simp [Value.cells] at hcs
    obtain ⟨rfl, rfl, rfl⟩ := hcs
    exact ⟨0, fun _ => noAns, none, 0, rfl, Nat.le_refl _, by omega, fun h => absurd h (Nat.not_lt_zero _)⟩
  · simp [Value.cells] at hcs
    obtain ⟨rfl, rfl, rfl⟩ := hcs
    simp only [if_true] at hmm
    subst hmm
    rw [Try.cells_ans] at hi
    have hd : d = _ := congrArg Prod.fst hx
    have hfit : len * 32 ≤ 140737488355328 := by
      have h9 := hz _ (by rw [hd]; simp only [DataW.weights, Try.underlying22]; exact List.mem_cons_self ..)
      rw [Try.bytes_ans] at h9
      simp only [List.length_map, List.length_range] at h9
      unfold reachBytes at h9
      omega
    obtain ⟨L, h2⟩ := fun_of noAns (fun i (x : Ans) => (∃ u, W.cell? (a.add (i * 2)) = some u ∧ WordsF (lt W) W u x.n x.f) ∧ W.cell? (a.add (i * 2 + 1)) = some (.bool x.trap)) len fun i hlt => by
      obtain ⟨cs', hc, ht⟩ := hi i (by omega)
      obtain ⟨x, ⟨u, hu, hw⟩, hb⟩ := ans_of_trod ht fun n hn => hz n (by
        rw [hd]
        simp only [DataW.weights, Try.underlying22]
        exact List.mem_cons_of_mem _ (List.mem_append.2 (.inl (weights_all (List.mem_map.2 ⟨i, List.mem_range.2 hlt, rfl⟩) n hn))))
      obtain ⟨_, hcl, hat⟩ := World.cells?_some hc
      have e0 := hat 0 (by decide)
      have e1 := hat 1 (by decide)
      rw [Go.Deep.add_add] at e0 e1
      exact ⟨x, ⟨u, e0.trans hu, hw⟩, e1.trans hb⟩
    refine ⟨len, L, some a, _, rfl, hl, hfit, fun h0 => ?_⟩
    obtain ⟨⟨u0, c0, _⟩, _⟩ := h2 0 h0
    have hspot := spot_none c0
    obtain ⟨g, o, sp⟩ := a
    obtain rfl : sp = none := hspot
    refine ⟨g, o, rfl, show g < W.heap.size from World.block_lt_of_cell? W _ (by rw [Addr.add_lit] at c0; exact c0), fun j hj => ?_⟩
    obtain ⟨⟨u, h3, h4⟩, h5⟩ := h2 j hj
    rw [Addr.add_lit] at h3 h5
    exact ⟨⟨u, h3, h4⟩, by rw [Nat.add_assoc]; exact h5⟩
set_option maxRecDepth 100000 in
theorem open_asks {H : Type} {enc : TypeId × Value → H} {W : World} {r : Reach} {b0 : Nat} {v : Value} {d : DataW H} {ps : List MemPlace} (hval : Value.okWide Try.prog W r b0 23 v)
    (h : DataW.Trod enc Try.prog W 0 (fun _ => true) true 23 v d ps) (hz : Fits 23 d) : ∃ M Q, AsksF (lt W) W v M Q := by
  obtain ⟨a0, len, cap, rfl⟩ := okWide_slice Try.underlying23 hval
  obtain ⟨fuel, hf⟩ := h
  rcases open_slice Try.underlying23 hf with ⟨hcs, _⟩ | ⟨a, len', cap', m, n, D, Pl, hcs, _, hl, hm, hmm, hx, hi⟩
  · simp [Value.cells] at hcs
    obtain ⟨rfl, rfl, rfl⟩ := hcs
    exact ⟨0, fun _ => ⟨0, 0, fun _ => 0, []⟩, none, 0, rfl, Nat.le_refl _, by omega, fun h => absurd h (Nat.not_lt_zero _)⟩
  · simp [Value.cells] at hcs
    obtain ⟨rfl, rfl, rfl⟩ := hcs
    simp only [if_true] at hmm
    subst hmm
    rw [Try.cells_ask] at hi
    have hd : d = _ := congrArg Prod.fst hx
    obtain ⟨Q, h2⟩ := fun_of (⟨0, 0, fun _ => 0, []⟩ : Qst) (fun i (x : Qst) => W.cell? (a.add (i * 3)) = some (.int .i64 x.idx) ∧ (∃ u, W.cell? (a.add (i * 3 + 1)) = some u ∧ WordsF (lt W) W u x.n x.f) ∧ ∃ u, W.cell? (a.add (i * 3 + 2)) = some u ∧ IntsK (lt W) W u x.T) len fun i hlt => by
      obtain ⟨cs', hc, ht⟩ := hi i (by omega)
      obtain ⟨x, hz0, ⟨u, hu, hw⟩, u2, hu2, hT⟩ := ask_of_trod ht fun n hn => hz n (by
        rw [hd]
        simp only [DataW.weights, Try.underlying23]
        exact List.mem_cons_of_mem _ (List.mem_append.2 (.inl (weights_all (List.mem_map.2 ⟨i, List.mem_range.2 hlt, rfl⟩) n hn))))
      obtain ⟨_, hcl, hat⟩ := World.cells?_some hc
      have e0 := hat 0 (by decide)
      have e1 := hat 1 (by decide)
      have e2 := hat 2 (by decide)
      rw [Go.Deep.add_add] at e0 e1 e2
      exact ⟨x, e0.trans hz0, ⟨u, e1.trans hu, hw⟩, u2, e2.trans hu2, hT⟩
    refine ⟨len, Q, some a, _, rfl, hl, by unfold maxLen at hm; omega, fun h0 => ?_⟩
    obtain ⟨c0, _⟩ := h2 0 h0
    have hspot := spot_none c0
    obtain ⟨g, o, sp⟩ := a
    obtain rfl : sp = none := hspot
    refine ⟨g, o, rfl, show g < W.heap.size from World.block_lt_of_cell? W _ (by rw [Addr.add_lit] at c0; exact c0), fun j hj => ?_⟩
    obtain ⟨h3, ⟨u, h4, h5⟩, u2, h6, h7⟩ := h2 j hj
    rw [Addr.add_lit] at h3 h4 h6
    exact ⟨h3, ⟨u, by rw [Nat.add_assoc]; exact h4, h5⟩, u2, by rw [Nat.add_assoc]; exact h6, h7⟩
end Go.Proofs.Ytlgfappnlnhddaa
