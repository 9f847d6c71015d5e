/-
  A slice of calls that comes in.
-/
import Derived.Test.YtljhdibnnaepdaaPgl
import Derived.Test.YtljhdibnnaepdaaPargs
import Derived.Deep.Slices
namespace Go.Proofs.Ytljhdibnnaepdaa
open Go.RowKit Go.ChangeShapes Go.WideShapes Go.Deep

theorem one_at {cs : List Value} {o : Nat} {u : Value} (h : (cs.drop o).take 1 = [u]) : cs[o]? = some u := by
  have h2 := congrArg (fun l => l[0]?) h
  simpa [List.getElem?_take, List.getElem?_drop] using h2
theorem some_at {α : Type} {l : List α} {n i : Nat} (h : l.length = n) (hi : i < n) : ∃ y, l[i]? = some y := ⟨_, List.getElem?_eq_getElem (by omega)⟩
theorem int_of_trod {H : Type} {enc : TypeId × Value → H} {W : World} {n o : Nat} {k : IntKind} {t : TypeId} {cs : List Value} {xs : List (DataW H × List MemPlace)} {i m : Nat} (ht : Try.prog.underlying t = some (.int k)) (hc : Try.prog.cellsOf t = 1) (hx : xs.length = m) (hi : i < m) (h : DataW.trod enc Try.prog W 0 (fun _ => true) true n t ((cs.drop o).take (Try.prog.cellsOf t)) = xs[i]?) : ∃ z, cs[o]? = some (.int k z) ∧ (Lit.int k z).wf = true := by
  obtain ⟨y, hy⟩ := some_at hx hi
  rw [hy, hc] at h
  obtain ⟨z, hz, _, hw⟩ := DataW.trod_int ht h
  exact ⟨z, one_at hz, hw⟩
theorem word_of {z : Int} (h : (Lit.int .u64 z).wf = true) : ∃ x : Nat, z = x := by
  simp only [Lit.wf, Bool.and_eq_true, decide_eq_true_eq] at h
  have := bounds_u64 (n := z) (by simp only [Lit.wf, Bool.and_eq_true, decide_eq_true_eq]; exact h)
  exact ⟨z.toNat, by omega⟩
theorem Try.cells_u64 : Try.prog.cellsOf 25 = 1 := by kernel_rfl
theorem Try.cells_bytes : Try.prog.cellsOf 27 = 1 := by kernel_rfl
theorem Try.cells_ask : Try.prog.cellsOf 29 = 6 := by kernel_rfl
theorem bytes_of_trod {H : Type} {enc : TypeId × Value → H} {W : World} {n : Nat} {cs : List Value} {y : DataW H × List MemPlace} (h : DataW.trod enc Try.prog W 0 (fun _ => true) true n 27 cs = some y) : ∃ u, cs = [u] ∧ BytesIn W u := by
  rcases open_ints Try.underlying27 Try.underlying5 Try.cells_byte h with ⟨hcs, _⟩ | ⟨a, len, cap, zs, hcs, _, hl, hm, hz, _, hcell, hwz⟩
  · exact ⟨_, hcs, none, 0, 0, [], rfl, rfl, Nat.le_refl _, by decide, Bytes.nil W none⟩
  · simp only [if_true] at hz
    have hlen : ((zs.take len).map Int.toNat).length = len := by simp; omega
    have hw : ∀ z ∈ zs, 0 ≤ z ∧ z ≤ 255 := fun z hzm => wf_u8 (hwz z hzm)
    refine ⟨_, hcs, some a, len, cap, (zs.take len).map Int.toNat, rfl, hlen, hl, by unfold maxLen at hm; omega, fun x hx => ?_, fun h0 => ?_⟩
    · obtain ⟨z, hzm, rfl⟩ := List.mem_map.1 hx
      have := hw z (List.mem_of_mem_take hzm)
      omega
    · rw [hlen] at h0 ⊢
      have c0 := hcell 0 (by omega)
      have hspot : a.spot = none := by
        have e : a.add 0 = a := by unfold Addr.add; simp
        rw [e] at c0
        unfold World.cell? at c0
        split at c0
        · split at c0
          · cases c0
          · rename_i h2; simpa using h2
        · cases c0
      obtain ⟨g, o, sp⟩ := a
      obtain rfl : sp = none := hspot
      refine ⟨g, o, rfl, World.block_lt_of_cell? W _ (by rw [Addr.add_lit] at c0; exact c0), fun j hj => ?_⟩
      have cj := hcell j (by omega)
      rw [Addr.add_lit] at cj
      rw [cj, ← getD_map_toNat zs len j hj (by omega) (fun z hzm => (hw z hzm).1)]
/-- The cells of one call. -/
theorem ask_of_trod {H : Type} {enc : TypeId × Value → H} {W : World} {n : Nat} {cs : List Value} {y : DataW H × List MemPlace} (h : DataW.trod enc Try.prog W 0 (fun _ => true) true n 29 cs = some y) :
    ∃ (kd m : Int) (q s v : Nat) (b : Value), cs[0]? = some (.int .i64 kd) ∧ cs[1]? = some (.int .i64 m) ∧ cs[2]? = some (.int .u64 (q : Int)) ∧ cs[3]? = some (.int .u64 (s : Int)) ∧ cs[4]? = some (.int .u64 (v : Int)) ∧ cs[5]? = some b ∧ BytesIn W b := by
  obtain ⟨xs, n1, _, hy, hl, hx, hf⟩ := DataW.trod_struct Try.underlying29 h
  have hx6 : xs.length = 6 := hx
  obtain ⟨z0, e0, _⟩ := int_of_trod (o := 0) Try.underlying3 Try.cells_int hx6 (by decide) (hf 0 _ rfl)
  obtain ⟨z1, e1, _⟩ := int_of_trod (o := 1) Try.underlying3 Try.cells_int hx6 (by decide) (hf 1 _ rfl)
  obtain ⟨z2, e2, w2⟩ := int_of_trod (o := 2) Try.underlying25 Try.cells_u64 hx6 (by decide) (hf 2 _ rfl)
  obtain ⟨z3, e3, w3⟩ := int_of_trod (o := 3) Try.underlying25 Try.cells_u64 hx6 (by decide) (hf 3 _ rfl)
  obtain ⟨z4, e4, w4⟩ := int_of_trod (o := 4) Try.underlying25 Try.cells_u64 hx6 (by decide) (hf 4 _ rfl)
  obtain ⟨y5, hy5⟩ := some_at hx6 (show 5 < 6 by decide)
  have h5 : DataW.trod enc Try.prog W 0 (fun _ => true) true n1 27 ((cs.drop 5).take (Try.prog.cellsOf 27)) = some y5 := (hf 5 _ rfl).trans hy5
  rw [Try.cells_bytes] at h5
  obtain ⟨u, hu, hb⟩ := bytes_of_trod h5
  obtain ⟨q, rfl⟩ := word_of w2
  obtain ⟨s, rfl⟩ := word_of w3
  obtain ⟨v, rfl⟩ := word_of w4
  exact ⟨z0, z1, q, s, v, u, e0, e1, e2, e3, e4, one_at hu, hb⟩
set_option maxRecDepth 100000 in
theorem open_asks {H : Type} {enc : TypeId × Value → H} {W : World} {r : Reach} {b0 : Nat} {v : Value} {d : DataW H} {ps : List MemPlace} (hval : Value.okWide Try.prog W r b0 24 v)
    (h : DataW.Trod enc Try.prog W 0 (fun _ => true) true 24 v d ps) : ∃ N : Nat, AsksIn W v N := by
  obtain ⟨a0, len, cap, rfl⟩ := okWide_slice Try.underlying24 hval
  obtain ⟨fuel, hf⟩ := h
  rcases open_slice Try.underlying24 hf with ⟨hcs, _⟩ | ⟨a, len', cap', m, n, D, Pl, hcs, _, hl, hm, hmm, hx, hi⟩
  · simp [Value.cells] at hcs
    obtain ⟨rfl, rfl, rfl⟩ := hcs
    exact ⟨0, none, 0, rfl, by decide, fun h => absurd h (by decide)⟩
  · simp [Value.cells] at hcs
    obtain ⟨rfl, rfl, rfl⟩ := hcs
    simp only [if_true] at hmm
    subst hmm
    rw [Try.cells_ask] at hi
    refine ⟨len, some a, _, rfl, by unfold maxLen at hm; omega, fun h0 => ?_⟩
    have hat : ∀ i, i < len → ∃ cs' : List Value, (∀ j, j < 6 → W.cell? (a.add (i * 6 + j)) = cs'[j]?) ∧ ∃ (kd m : Int) (q s v : Nat) (b : Value), cs'[0]? = some (.int .i64 kd) ∧ cs'[1]? = some (.int .i64 m) ∧ cs'[2]? = some (.int .u64 (q : Int)) ∧ cs'[3]? = some (.int .u64 (s : Int)) ∧ cs'[4]? = some (.int .u64 (v : Int)) ∧ cs'[5]? = some b ∧ BytesIn W b := fun i hlt => by
      obtain ⟨cs', hc, ht⟩ := hi i (by omega)
      obtain ⟨_, hcl, hat⟩ := World.cells?_some hc
      exact ⟨cs', fun j hj => by rw [← Go.Deep.add_add, hat j hj], ask_of_trod ht⟩
    have hspot : a.spot = none := by
      obtain ⟨cs', hc, kd, m, q, s, v, b, e0, _⟩ := hat 0 h0
      have c0 := hc 0 (by decide)
      have e : a.add (0 * 6 + 0) = a := by unfold Addr.add; simp
      rw [e, e0] at c0
      unfold World.cell? at c0
      split at c0
      · split at c0
        · cases c0
        · rename_i h2; simpa using h2
      · cases c0
    obtain ⟨g, o, sp⟩ := a
    obtain rfl : sp = none := hspot
    refine ⟨g, o, rfl, ?_, fun j hj => ?_⟩
    · obtain ⟨cs', hc, kd, m, q, s, v, b, e0, _⟩ := hat 0 h0
      have c0 := hc 0 (by decide)
      rw [Addr.add_lit, e0] at c0
      exact World.block_lt_of_cell? W _ c0
    · obtain ⟨cs', hc, kd, m, q, s, v, b, e0, e1, e2, e3, e4, e5, hb⟩ := hat j hj
      have hc' : ∀ i, i < 6 → W.cell? ⟨g, o + (j * 6 + i), none⟩ = cs'[i]? := fun i hi => by have := hc i hi; rwa [Addr.add_lit] at this
      have f0 := hc' 0 (by decide)
      have f1 := hc' 1 (by decide)
      have f2 := hc' 2 (by decide)
      have f3 := hc' 3 (by decide)
      have f4 := hc' 4 (by decide)
      have f5 := hc' 5 (by decide)
      rw [← Nat.add_assoc] at f0 f1 f2 f3 f4 f5
      exact ⟨kd, m, q, s, v, b, f0.trans e0, f1.trans e1, f2.trans e2, f3.trans e3, f4.trans e4, f5.trans e5, hb⟩
end Go.Proofs.Ytljhdibnnaepdaa
