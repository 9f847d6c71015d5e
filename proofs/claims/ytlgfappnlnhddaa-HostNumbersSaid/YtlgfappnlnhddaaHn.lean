/-
  HostNumbers: its walk.
-/
import Derived.Test.YtlgfappnlnhddaaHh
import Derived.Test.YtlgfappnlnhddaaHo
namespace Go.Proofs.Ytlgfappnlnhddaa
open Go.RowKit
variable {w w' : World}

theorem AsksF.take {K : Nat → Prop} {A : Option Addr} {N c m : Nat} {Q : Nat → Qst} (h : AsksF K w (.slice A N c) N Q) (hm : m ≤ N) : AsksF K w (.slice A m c) m Q := by
  obtain ⟨A', c', he, h1, h2, h3⟩ := h
  simp only [Value.slice.injEq, true_and] at he
  obtain ⟨rfl, rfl⟩ := he
  refine ⟨_, _, rfl, by omega, by omega, fun h0 => ?_⟩
  obtain ⟨g, o, rfl, hg, h4⟩ := h3 (by omega)
  exact ⟨g, o, rfl, hg, fun j hj => h4 j (by omega)⟩
theorem Try.infoAsk : (Try.prog.info? 30).map (fun i => (i.zero, i.size, i.bytes)) = some (some (.agg #[.int .i64 0, .slice none 0 0, .slice none 0 0]), 3, 56) := by kernel_rfl
/-- The two rows while they are made: the blocks D hold what lies in them. -/
structure Made2 (w0 : World) (D : Nat → Prop) (v1 : Value) (xs : List Value) (n1 : Nat) (v2 : Value) (ys : List Value) (n2 : Nat) (w : World) : Prop where
  acc : Below w0.heap.size w0 w
  o1 : w.ownsRow 0 26 2 v1 n1 xs
  o2 : w.ownsRow 0 30 3 v2 n2 ys
  e1 : ∀ j, j < n1 → ∃ (u : Value) (n : Nat) (f : Nat → Nat) (b : Bool), xs[j * 2]? = some u ∧ WordsF D w u n f ∧ xs[j * 2 + 1]? = some (.bool b)
  e2 : ∀ j, j < n2 → ∃ (z : Int) (u : Value) (n : Nat) (f : Nat → Nat) (u2 : Value) (T : List Int), ys[j * 3]? = some (.int .i64 z) ∧ ys[j * 3 + 1]? = some u ∧ WordsF D w u n f ∧ ys[j * 3 + 2]? = some u2 ∧ IntsK D w u2 T
  d1 : ∀ b, v1.ownBlock = some b → w0.heap.size ≤ b ∧ b < w.heap.size ∧ ¬ D b ∧ v2.ownBlock ≠ some b
  d2 : ∀ b, v2.ownBlock = some b → w0.heap.size ≤ b ∧ b < w.heap.size ∧ ¬ D b
  dl : ∀ b, D b → b < w.heap.size
section
variable {w0 : World} {D : Nat → Prop} {v1 v2 : Value} {xs ys : List Value} {n1 n2 : Nat}
theorem own_lt {base : Nat} {e : TypeId} {size : Nat} {v : Value} {n : Nat} {xs : List Value} (h : w.ownsRow base e size v n xs) {b : Nat} (hb : v.ownBlock = some b) : b < w.heap.size := by
  rcases h.2 with ⟨h9, _⟩ | ⟨g, cap, cur, h9, _, h10, _⟩
  · rw [h9] at hb; cases hb
  · rw [h9] at hb
    have e2 : g = b := by simpa [Value.ownBlock] using hb
    rw [← e2]; exact (Array.getElem?_eq_some_iff.1 h10).1
/-- What it reads of stays. -/
theorem Made2.keep (h : Made2 w0 D v1 xs n1 v2 ys n2 w) {K : Nat → Prop} (hk : Keeps K w w') (h0 : Below w0.heap.size w0 w') (hD : ∀ b, D b → K b) (h1 : ∀ b, v1.ownBlock = some b → K b) (h2 : ∀ b, v2.ownBlock = some b → K b) : Made2 w0 D v1 xs n1 v2 ys n2 w' :=
  ⟨h0, owns_keep h.o1 hk h1, owns_keep h.o2 hk h2, fun j hj => by
    obtain ⟨u, n, f, b, k1, k2, k3⟩ := h.e1 j hj
    exact ⟨u, n, f, b, k1, k2.keep (hk.mono hD) fun _ h => h, k3⟩, fun j hj => by
    obtain ⟨z, u, n, f, u2, T, k1, k2, k3, k4, k5⟩ := h.e2 j hj
    exact ⟨z, u, n, f, u2, T, k1, k2, k3.keep (hk.mono hD) fun _ h => h, k4, k5.keep (hk.mono hD) fun _ h => h⟩,
    fun b hb => ⟨(h.d1 b hb).1, Nat.lt_of_lt_of_le (h.d1 b hb).2.1 hk.size, (h.d1 b hb).2.2⟩, fun b hb => ⟨(h.d2 b hb).1, Nat.lt_of_lt_of_le (h.d2 b hb).2.1 hk.size, (h.d2 b hb).2.2⟩, fun b hb => Nat.lt_of_lt_of_le (h.dl b hb) hk.size⟩
theorem Made2.below (h : Made2 w0 D v1 xs n1 v2 ys n2 w) (hb : Below w.heap.size w w') : Made2 w0 D v1 xs n1 v2 ys n2 w' :=
  h.keep (K := fun b => b < w.heap.size) (.below hb fun _ h => h) (h.acc.trans (hb.mono h.acc.size)) h.dl (fun b hb => (h.d1 b hb).2.1) fun b hb => (h.d2 b hb).2.1
/-- More blocks are held. -/
theorem Made2.more (h : Made2 w0 D v1 xs n1 v2 ys n2 w) {D' : Nat → Prop} (hD : ∀ b, D b → D' b) (hl : ∀ b, D' b → b < w.heap.size) (h1 : ∀ b, v1.ownBlock = some b → ¬ D' b) (h2 : ∀ b, v2.ownBlock = some b → ¬ D' b) : Made2 w0 D' v1 xs n1 v2 ys n2 w :=
  ⟨h.acc, h.o1, h.o2, fun j hj => by
    obtain ⟨u, n, f, b, k1, k2, k3⟩ := h.e1 j hj
    exact ⟨u, n, f, b, k1, k2.mono hD, k3⟩, fun j hj => by
    obtain ⟨z, u, n, f, u2, T, k1, k2, k3, k4, k5⟩ := h.e2 j hj
    exact ⟨z, u, n, f, u2, T, k1, k2, k3.mono hD, k4, k5.keep (Keeps.refl D w) hD⟩,
    fun b hb => ⟨(h.d1 b hb).1, (h.d1 b hb).2.1, h1 b hb, (h.d1 b hb).2.2.2⟩, fun b hb => ⟨(h.d2 b hb).1, (h.d2 b hb).2.1, h2 b hb⟩, hl⟩
/-- One answer more; what it holds lies in new blocks. -/
theorem Made2.push1 (h : Made2 w0 D v1 xs n1 v2 ys n2 w) {D' : Nat → Prop} {w1 : World} {v : Value} {u : Value} {n : Nat} {f : Nat → Nat} {b : Bool} (hD1 : ∀ b, D b → D' b) (hD2 : ∀ b, D' b → D b ∨ Nw w w1 b) (hu : WordsF D' w1 u n f)
    (hown : w1.ownsRow 0 26 2 v (n1 + 1) (xs ++ [u, .bool b])) (hk : Keeps (fun b => b < w.heap.size ∧ v1.ownBlock ≠ some b) w w1) (hat : v.ownBlock = v1.ownBlock ∨ ∀ g, v.ownBlock = some g → w.heap.size ≤ g ∧ ¬ D' g) : Made2 w0 D' v (xs ++ [u, .bool b]) (n1 + 1) v2 ys n2 w1 := by
  have h0 : Below w0.heap.size w0 w1 := h.acc.trans (hk.to_below fun b hb => ⟨by have := h.acc.size; omega, fun e => by have := (h.d1 b e).1; omega⟩)
  have hD : ∀ b, D b → b < w.heap.size ∧ v1.ownBlock ≠ some b := fun b hb => ⟨h.dl b hb, fun e => (h.d1 b e).2.2.1 hb⟩
  have hx := h.o1.1
  refine ⟨h0, hown, owns_keep h.o2 hk fun b hb => ⟨(h.d2 b hb).2.1, fun e => (h.d1 b e).2.2.2 hb⟩, fun j hj => ?_, fun j hj => ?_, fun b' hb => ?_, fun b' hb => ?_, fun b hb => ?_⟩
  · by_cases e : j = n1
    · subst e
      refine ⟨u, n, f, b, ?_, hu, ?_⟩
      · rw [List.getElem?_append_right (by omega), hx, Nat.sub_self]; rfl
      · rw [List.getElem?_append_right (by omega), hx, show j * 2 + 1 - j * 2 = 1 by omega]; rfl
    · obtain ⟨u', n', f', b', k1, k2, k3⟩ := h.e1 j (by omega)
      exact ⟨u', n', f', b', by rw [List.getElem?_append_left (by omega)]; exact k1, k2.keep (hk.mono hD) hD1, by rw [List.getElem?_append_left (by omega)]; exact k3⟩
  · obtain ⟨z, u, n, f, u2, T, k1, k2, k3, k4, k5⟩ := h.e2 j hj
    exact ⟨z, u, n, f, u2, T, k1, k2, k3.keep (hk.mono hD) hD1, k4, k5.keep (hk.mono hD) hD1⟩
  · have hs := h.acc.size
    rcases hat with h9 | h9
    · rw [h9] at hb
      have h7 := h.d1 b' hb
      refine ⟨h7.1, Nat.lt_of_lt_of_le h7.2.1 hk.size, fun hd => ?_, h7.2.2.2⟩
      rcases hD2 b' hd with h6 | h6
      · exact h7.2.2.1 h6
      · have := h6.1; have := h7.2.1; omega
    · have h8 := h9 b' hb
      exact ⟨by omega, own_lt hown hb, h8.2, fun e => by have := (h.d2 b' e).2.1; omega⟩
  · have h7 := h.d2 b' hb
    refine ⟨h7.1, Nat.lt_of_lt_of_le h7.2.1 hk.size, fun hd => ?_⟩
    rcases hD2 b' hd with h6 | h6
    · exact h7.2.2 h6
    · have := h6.1; have := h7.2.1; omega
  · rcases hD2 b hb with h6 | h6
    · exact Nat.lt_of_lt_of_le (h.dl b h6) hk.size
    · exact h6.2
/-- One call more; what it holds lies in new blocks. -/
theorem Made2.push2 (h : Made2 w0 D v1 xs n1 v2 ys n2 w) {D' : Nat → Prop} {w1 : World} {v : Value} {z : Int} {u u2 : Value} {n : Nat} {f : Nat → Nat} {T : List Int} (hD1 : ∀ b, D b → D' b) (hD2 : ∀ b, D' b → D b ∨ Nw w w1 b) (hu : WordsF D' w1 u n f) (hT : IntsK D' w1 u2 T)
    (hown : w1.ownsRow 0 30 3 v (n2 + 1) (ys ++ [.int .i64 z, u, u2])) (hk : Keeps (fun b => b < w.heap.size ∧ v2.ownBlock ≠ some b) w w1) (hat : v.ownBlock = v2.ownBlock ∨ ∀ g, v.ownBlock = some g → w.heap.size ≤ g ∧ ¬ D' g) : Made2 w0 D' v1 xs n1 v (ys ++ [.int .i64 z, u, u2]) (n2 + 1) w1 := by
  have h0 : Below w0.heap.size w0 w1 := h.acc.trans (hk.to_below fun b hb => ⟨by have := h.acc.size; omega, fun e => by have := (h.d2 b e).1; omega⟩)
  have hD : ∀ b, D b → b < w.heap.size ∧ v2.ownBlock ≠ some b := fun b hb => ⟨h.dl b hb, fun e => (h.d2 b e).2.2 hb⟩
  have hx := h.o2.1
  refine ⟨h0, owns_keep h.o1 hk fun b hb => ⟨(h.d1 b hb).2.1, (h.d1 b hb).2.2.2⟩, hown, fun j hj => ?_, fun j hj => ?_, fun b' hb => ?_, fun b' hb => ?_, fun b hb => ?_⟩
  · obtain ⟨u', n', f', b', k1, k2, k3⟩ := h.e1 j hj
    exact ⟨u', n', f', b', k1, k2.keep (hk.mono hD) hD1, k3⟩
  · by_cases e : j = n2
    · subst e
      refine ⟨z, u, n, f, u2, T, ?_, ?_, hu, ?_, hT⟩
      · rw [List.getElem?_append_right (by omega), hx, Nat.sub_self]; rfl
      · rw [List.getElem?_append_right (by omega), hx, show j * 3 + 1 - j * 3 = 1 by omega]; rfl
      · rw [List.getElem?_append_right (by omega), hx, show j * 3 + 2 - j * 3 = 2 by omega]; rfl
    · obtain ⟨z', u', n', f', u2', T', k1, k2, k3, k4, k5⟩ := h.e2 j (by omega)
      exact ⟨z', u', n', f', u2', T', by rw [List.getElem?_append_left (by omega)]; exact k1, by rw [List.getElem?_append_left (by omega)]; exact k2, k3.keep (hk.mono hD) hD1, by rw [List.getElem?_append_left (by omega)]; exact k4, k5.keep (hk.mono hD) hD1⟩
  · have h1 := h.d1 b' hb
    refine ⟨h1.1, Nat.lt_of_lt_of_le h1.2.1 hk.size, fun hd => ?_, fun e => ?_⟩
    · rcases hD2 b' hd with h6 | h6
      · exact h1.2.2.1 h6
      · have := h6.1; have := h1.2.1; omega
    · rcases hat with h9 | h9
      · exact h1.2.2.2 (h9.symm.trans e)
      · have := (h9 b' e).1; have := h1.2.1; omega
  · have hs := h.acc.size
    rcases hat with h9 | h9
    · rw [h9] at hb
      have h7 := h.d2 b' hb
      refine ⟨h7.1, Nat.lt_of_lt_of_le h7.2.1 hk.size, fun hd => ?_⟩
      rcases hD2 b' hd with h6 | h6
      · exact h7.2.2 h6
      · have := h6.1; have := h7.2.1; omega
    · have h8 := h9 b' hb
      exact ⟨by omega, own_lt hown hb, h8.2⟩
  · rcases hD2 b hb with h6 | h6
    · exact Nat.lt_of_lt_of_le (h.dl b h6) hk.size
    · exact h6.2
theorem fun_of' {α : Type} (d : α) (P : Nat → α → Prop) : ∀ n, (∀ i, i < n → ∃ x, P i x) → ∃ f : Nat → α, ∀ i, i < n → P i (f i)
  | 0, _ => ⟨fun _ => d, fun _ h => absurd h (Nat.not_lt_zero _)⟩
  | n + 1, h => by
    obtain ⟨f, h2⟩ := fun_of' d P n fun i hi => h i (by omega)
    obtain ⟨x, hx⟩ := h n (by omega)
    refine ⟨fun i => if i = n then x else f i, fun i hi => ?_⟩
    by_cases e : i = n
    · subst e; simpa using hx
    · simp only [e, if_false]; exact h2 i (by omega)
theorem Made2.ans (h : Made2 w0 D v1 xs n1 v2 ys n2 w) (hn : n1 ≤ 1000) : ∃ L, AnsF (fun b => b < w.heap.size) w v1 n1 L := by
  obtain ⟨L, hL⟩ := fun_of' noAns (fun j (a : Ans) => ∃ u, xs[j * 2]? = some u ∧ WordsF D w u a.n a.f ∧ xs[j * 2 + 1]? = some (.bool a.trap)) n1 fun j hj => by
    obtain ⟨u, n, f, b, k1, k2, k3⟩ := h.e1 j hj
    exact ⟨⟨n, f, b⟩, u, k1, k2, k3⟩
  refine ⟨L, ?_⟩
  rcases h.o1.2 with ⟨h9, h8⟩ | ⟨g, cap, cur, h9, _, h10, h11, _⟩
  · exact ⟨none, 0, by rw [h9, h8], by omega, by omega, fun h0 => by omega⟩
  · refine ⟨_, cap, h9, h11, by omega, fun _ => ⟨g, 0, rfl, (Array.getElem?_eq_some_iff.1 h10).1, fun j hj => ?_⟩⟩
    obtain ⟨u, k1, k2, k3⟩ := hL j hj
    have c := h.o1
    rw [h9] at c
    have e1 := c.cells (g := g) rfl (j * 2) _ k1
    have e2 := c.cells (g := g) rfl (j * 2 + 1) _ k3
    rw [add_lit0] at e1 e2
    refine ⟨⟨u, by rw [Nat.zero_add]; exact e1, k2.mono h.dl⟩, by rw [Nat.zero_add]; exact e2⟩
theorem Made2.asks (h : Made2 w0 D v1 xs n1 v2 ys n2 w) (hn : n2 ≤ 1000) : ∃ Q, AsksF (fun b => b < w.heap.size) w v2 n2 Q := by
  obtain ⟨Q, hQ⟩ := fun_of' (⟨0, 0, fun _ => 0, []⟩ : Qst) (fun j (q : Qst) => ys[j * 3]? = some (.int .i64 q.idx) ∧ (∃ u, ys[j * 3 + 1]? = some u ∧ WordsF D w u q.n q.f) ∧ ∃ u, ys[j * 3 + 2]? = some u ∧ IntsK D w u q.T) n2 fun j hj => by
    obtain ⟨z, u, n, f, u2, T, k1, k2, k3, k4, k5⟩ := h.e2 j hj
    exact ⟨⟨z, n, f, T⟩, k1, ⟨u, k2, k3⟩, u2, k4, k5⟩
  refine ⟨Q, ?_⟩
  rcases h.o2.2 with ⟨h9, h8⟩ | ⟨g, cap, cur, h9, _, h10, h11, _⟩
  · exact ⟨none, 0, by rw [h9, h8], by omega, by omega, fun h0 => by omega⟩
  · refine ⟨_, cap, h9, h11, by omega, fun _ => ⟨g, 0, rfl, (Array.getElem?_eq_some_iff.1 h10).1, fun j hj => ?_⟩⟩
    obtain ⟨k1, ⟨u, k2, k3⟩, u2, k4, k5⟩ := hQ j hj
    have c := h.o2
    rw [h9] at c
    have e0 := c.cells (g := g) rfl (j * 3) _ k1
    have e1 := c.cells (g := g) rfl (j * 3 + 1) _ k2
    have e2 := c.cells (g := g) rfl (j * 3 + 2) _ k4
    rw [add_lit0] at e0 e1 e2
    exact ⟨by rw [Nat.zero_add]; exact e0, ⟨u, by rw [Nat.zero_add]; exact e1, k3.mono h.dl⟩, u2, by rw [Nat.zero_add]; exact e2, k5.keep (Keeps.refl D w) h.dl⟩
end
theorem four_ints {g m : Nat} {K : Nat → Prop} (h : w.heap[g]? = some (.cells #[.int .i64 127, .int .i64 124, .int .i64 126, .int .i64 127] 3 (0, 0))) (hK : K g) (hm : m ≤ 4) : IntsK K w (.slice (some ⟨g, 0, none⟩) m 4) ([127, 124, 126, 127].take m) := by
  have hl : ([127, 124, 126, 127].take m : List Int).length = m := by rw [List.length_take]; exact Nat.min_eq_left hm
  refine ⟨_, 4, by rw [hl], by rw [hl]; unfold maxLen; omega, (fun h => by cases h), fun _ => ⟨g, 0, rfl, hK, fun j hj => ?_⟩⟩
  rw [hl] at hj
  rw [Nat.zero_add, cell_of_row w g j _ _ _ h, List.getD_eq_getElem?_getD, List.getElem?_take, if_pos hj]
  match j, (show j < 4 by omega) with
  | 0, _ => rfl
  | 1, _ => rfl
  | 2, _ => rfl
  | 3, _ => rfl
theorem mods (i : Nat) : ∃ (m m3 : Nat) (b : Bool), m ≤ 4 ∧ m3 ≤ 2 ∧ (i : Int) % 5 = (m : Int) ∧ (i : Int) % 3 = (m3 : Int) ∧ ((i : Int) % 7 == 6) = b ∧ (i : Int).tmod 5 = (m : Int) ∧ (i : Int).tmod 3 = (m3 : Int) :=
  ⟨i % 5, i % 3, ((i : Int) % 7 == 6), by omega, by omega, rfl, rfl, rfl, by rw [Int.tmod_eq_emod_of_nonneg (Int.natCast_nonneg _)]; rfl, by rw [Int.tmod_eq_emod_of_nonneg (Int.natCast_nonneg _)]; rfl⟩
set_option maxRecDepth 100000 in
set_option maxHeartbeats 2000000 in
theorem hnumbers_any (w : World) : Calls Try.prog 3 #[] w (BoolPost true w) := by
  go_enter Try.func3, Try.ntmps3
  go_wp2_with fail
  go_loopw [1, 2, 3] (fun va vb vi wr => ∃ (i : Nat) (D : Nat → Prop) (xs ys : List Value), vi = .int .i64 (i : Int) ∧ i ≤ 30 ∧ Hid (Made2 w D va xs i vb ys i wr)) (fun _ _ vi _ => 30 - (intOf vi).toNat)
  case atStart => exact ⟨0, fun _ => False, [], [], rfl, Nat.zero_le _, Lib.hid ⟨Below.refl _ _, World.ownsRow_nil _ _ _ _, World.ownsRow_nil _ _ _ _, fun j hj => absurd hj (Nat.not_lt_zero _), fun j hj => absurd hj (Nat.not_lt_zero _), (fun b hb => by cases hb), (fun b hb => by cases hb), (fun b hb => False.elim hb)⟩⟩
  case round =>
    obtain ⟨wo, rfl⟩ : ∃ wo : World, wo = wr := ⟨_, rfl⟩
    obtain ⟨i, D, xs, ys, rfl, hi30, HM⟩ := hrel
    by_cases hlt : i < 30
    · obtain ⟨m, m3, bb, hm4, hm3, t5, t3, t7, s5, s3⟩ := mods i
      have hmi4 : (m : Int) ≤ 4 := by omega
      have hmd4 : decide ((m : Int) ≤ 4) = true := by simp; omega
      have hmn4 : ¬ (4 : Int) < (m : Int) := by omega
      have hd : decide ((i : Int) < 30) = true := by simp; omega
      have hmk := run_make_words m (by omega) wo
      obtain ⟨Aa, ca, rfl⟩ := owns_slice HM.out.o1
      obtain ⟨Ab, cb, rfl⟩ := owns_slice HM.out.o2
      have hbW : Below wo.heap.size wo ((wo.alloc (.cells (rowF m (fun _ => 0)) 27)).alloc (.cells #[.slice (some ⟨wo.heap.size, 0, none⟩) m m, .bool bb] 26)) := ((Below.refl _ _).alloc (Nat.le_refl _) _).alloc (by simp) _
      have HOW := Lib.hid (HM.out.below hbW).o1
      have hnews := news_new (wo.alloc (.cells (rowF m (fun _ => 0)) 27)) #[.slice (some ⟨wo.heap.size, 0, none⟩) m m, .bool bb] 26 1 1
      rw [show (wo.alloc (.cells (rowF m (fun _ => 0)) 27)).heap.size = wo.heap.size + 1 by simp] at hnews
      have HNEWS := Lib.hid hnews
      have HBW := Lib.hid hbW
      have HFR0 : Hid (((wo.alloc (.cells (rowF m (fun _ => 0)) 27)).alloc (.cells #[.slice (some ⟨wo.heap.size, 0, none⟩) m m, .bool bb] 26)).heap[wo.heap.size]? = some (.cells (rowF m (fun _ => 0)) 27 (0, 0))) := Lib.hid (heap_alloc2_old wo _ _)
      have hone : ∀ u ∈ ([.slice (some ⟨wo.heap.size, 0, none⟩) m m, .bool bb] : List Value), u.oneCell' = true := by
        intro u hu; simp only [List.mem_cons, List.not_mem_nil, or_false] at hu; rcases hu with rfl | rfl <;> rfl
      clear hnews hbW
      go_upto_region 7 with (at_builtin; refine wpList_append_row rfl (.tmp 9) (.tmp 17) 22 26 rfl _ 2 32 Try.underlying22 Try.infoAns rfl (by decide) (by decide) (.slice Aa i ca) i xs (by rfl) HOW.out _ 1 [.slice (some ⟨wo.heap.size, 0, none⟩) m m, .bool bb] (by rfl) (by rfl) HNEWS.out hone (by omega) ?_; intro v4 w4 hown4 hgr4 hat4; obtain ⟨A4, c4, rfl⟩ := owns_slice hown4; have HOWN4 := Lib.hid hown4; have HGR4 := Lib.hid hgr4; have HAT4 := Lib.hid hat4; clear hown4 hgr4 hat4)
      obtain ⟨g4, hA4, hat4, hl4, hc4⟩ : ∃ g4, A4 = some ⟨g4, 0, none⟩ ∧ (g4 = wo.heap.size + 2 ∨ (Value.slice Aa i ca).ownBlock = some g4) ∧ g4 < w4.heap.size ∧ ∀ j u, (xs ++ [.slice (some ⟨wo.heap.size, 0, none⟩) m m, .bool bb])[j]? = some u → w4.cell? ⟨g4, j, none⟩ = some u := by
        rcases HOWN4.out.2 with ⟨h9, h8⟩ | ⟨g, cap, cur, h9, _, h10, _⟩
        · omega
        · have c := HOWN4.out
          rw [h9] at c
          have e9 := h9
          simp only [Value.slice.injEq] at e9
          refine ⟨g, e9.1, ?_, (Array.getElem?_eq_some_iff.1 h10).1, fun j u hu => by have := c.cells (g := g) rfl j u hu; rwa [add_lit0] at this⟩
          rcases HAT4.out with h7 | h7
          · right; rw [← h7, h9]; rfl
          · left; rw [h9] at h7
            have h6 : g = ((wo.alloc (.cells (rowF m (fun _ => 0)) 27)).alloc (.cells #[.slice (some ⟨wo.heap.size, 0, none⟩) m m, .bool bb] 26)).heap.size := by simpa [Value.ownBlock] using h7
            simpa using h6
      subst hA4
      have hxl := HM.out.o1.1
      have c0 := hc4 (i * 2) (.slice (some ⟨wo.heap.size, 0, none⟩) m m) (by rw [List.getElem?_append_right (by omega), hxl, Nat.sub_self]; rfl)
      have hg4 : g4 ≠ wo.heap.size := by
        rcases hat4 with h9 | h9
        · omega
        · have := (HM.out.d1 g4 h9).2.1; omega
      have hko : Keeps (fun b => b < wo.heap.size ∧ (Value.slice Aa i ca).ownBlock ≠ some b) wo w4 := (Keeps.below HBW.out fun b hb => hb.1).trans (.grown HGR4.out (fun b hb => Nat.lt_of_lt_of_le hb.1 HBW.out.size) fun j e hk => hk.2 e)
      have hbl : wo.heap.size < ((wo.alloc (.cells (rowF m (fun _ => 0)) 27)).alloc (.cells #[.slice (some ⟨wo.heap.size, 0, none⟩) m m, .bool bb] 26)).heap.size := by simp <;> omega
      have hfr4 : FRow w4 wo.heap.size m (fun _ => 0) := by
        have h9 := HGR4.out.block wo.heap.size hbl (fun e => by have := (HM.out.d1 wo.heap.size e.symm).2.1; omega)
        exact h9.trans HFR0.out
      have hb1l := hfr4.lt
      have HKO := Lib.hid hko
      have HFR4 := Lib.hid hfr4
      have HC0 := Lib.hid c0
      clear hc4 hko hbl hfr4 HNEWS HOW HFR0 HBW hmk
      have d2 := HM.out.d2
      have HD2 := Lib.hid d2
      clear d2 hat4
      go_wp2_with fail
      go_loopw [25] (fun vk wx => ∃ (k : Nat) (f : Nat → Nat), vk = .int .i64 (k : Int) ∧ k ≤ m ∧ Hid (Keeps (fun b => b ≠ wo.heap.size) w4 wx) ∧ Hid (FRow wx wo.heap.size m f) ∧ Hid (∀ j, j < m → f j < 18446744073709551616)) (fun vk _ => m - (intOf vk).toNat)
      case atStart => exact ⟨0, fun _ => 0, rfl, Nat.zero_le _, Lib.hid (Keeps.refl _ _), HFR4, Lib.hid (fun j _ => show (0 : Nat) < 18446744073709551616 by decide)⟩
      case round =>
        obtain ⟨k, f, rfl, hkm, HKW, HFW, HFL⟩ := hrel
        clear c0
        have c0 := (HKW.out.cell (p := ⟨g4, i * 2, none⟩) hg4).trans HC0.out
        by_cases hkk : k < m
        · have v0 := HFW.out.cell k hkk
          have fz := HFW.out.frozen k
          unfold wrd at v0
          obtain ⟨pr, hpr, hpl⟩ : ∃ pr : Nat, (i : Int) * (k : Int) = (pr : Int) ∧ pr ≤ 120 := ⟨i * k, rfl, Nat.le_trans (Nat.mul_le_mul (show i ≤ 30 by omega) (show k ≤ 4 by omega)) (by decide)⟩
          have hset := HFW.out.set k (9223372036854775808 + pr)
          have HSET := Lib.hid hset
          have hnew : ∀ j, j < m → upd f k (9223372036854775808 + pr) j < 18446744073709551616 := fun j hj => by
            unfold upd
            split
            · omega
            · exact HFL.out j hj
          have HNEW := Lib.hid hnew
          have u1 : IntKind.u64.wrap (9223372036854775808 + (pr : Int)) = ((9223372036854775808 + pr : Nat) : Int) := by
            show ((9223372036854775808 + (pr : Int)) % 18446744073709551616) = _
            omega
          clear hset hnew
          go_wp2
          go_roundw
          case rel => exact ⟨k + 1, _, by go_num, by omega, Lib.hid (HKW.out.trans (Keeps.setCell _ (p := ⟨wo.heap.size, k, none⟩) (fun h => h rfl) _)), HSET, HNEW⟩
          case measure => simp [intOf]; omega
        · have hsz5 := HKW.out.size
          have hM1 := HM.out.push1 (D' := fun b => D b ∨ b = wo.heap.size) (w1 := wr) (v := .slice (some ⟨g4, 0, none⟩) (i + 1) c4) (u := .slice (some ⟨wo.heap.size, 0, none⟩) m m) (n := m) (f := f) (b := bb) (fun b hb => .inl hb) (fun b hb => by
            rcases hb with hb | hb
            · exact .inl hb
            · exact .inr ⟨by omega, by omega⟩) (HFW.out.words (.inr rfl) (by omega) HFL.out) (owns_keep HOWN4.out HKW.out fun b hb => by
              have e : g4 = b := by simpa [Value.ownBlock] using hb
              rw [← e]; exact hg4) (HKO.out.trans (HKW.out.mono fun b hb => by have := hb.1; omega)) (by
            rcases HAT4.out with h9 | h9
            · exact .inl h9
            · refine .inr fun g e => ?_
              have e2 : wo.heap.size + 2 = g := by have := h9.symm.trans e; simpa using this
              refine ⟨by omega, fun hd => ?_⟩
              rcases hd with hd | hd
              · have := HM.out.dl g hd; omega
              · omega)
          have HM1 := Lib.hid hM1
          clear hM1 HOWN4 HGR4 HAT4 HKO HFR4 HC0 HKW HFW HFL c0
          go_wp2_with fail
          refine Rest.start (S := fun wz => Keeps (fun b => b < wr.heap.size ∧ (Value.slice Ab i cb).ownBlock ≠ some b) wr wz) (X := 12) (by kernel_rfl) ?_
          show Rest _ _ _ _ _ _ 13 #[false, false, false, false, false, false, false, false, false, false, false, false, false] _ _
          have hS : Keeps (fun b => b < wr.heap.size ∧ (Value.slice Ab i cb).ownBlock ≠ some b) wr wr.drew := .below ((Below.refl _ _).drew) fun _ h => h.1
          have hSB : Below wr.heap.size wr wr.drew := (Below.refl _ _).drew
          generalize wr.drew = x1 at hS hSB ⊢
          refine Rest.tk 0 41 rfl hS ?_
          refine Rest.tk 1 42 rfl hS ?_
          refine Rest.tk 2 43 rfl hS ?_
          refine Rest.tk 3 44 rfl hS ?_
          refine Rest.tk 6 47 rfl hS ?_
          refine Rest.tk 7 48 rfl hS ?_
          refine Rest.two (i := 4) (j := 5) (by kernel_rfl) ?_ ?_
          --WAYS
          · refine Comes.m 45 rfl fun K hK => ?_
            have hmk3 := run_make_words m3 (by omega) x1
            go_simp
            have hS2 : Keeps (fun b => b < wr.heap.size ∧ (Value.slice Ab i cb).ownBlock ≠ some b) wr (x1.alloc (.cells (rowF m3 (fun _ => 0)) 27)) := hS.trans (.below ((Below.refl _ _).alloc (Nat.le_refl _) _) fun b hb => Nat.lt_of_lt_of_le hb.1 hSB.size)
            have hSB2 : Below wr.heap.size wr (x1.alloc (.cells (rowF m3 (fun _ => 0)) 27)) := hSB.alloc hSB.size _
            refine hK.out _ _ (.inr hS2) ?_
            clear hK K hS
            try simp only [List.setIfInBounds_toArray, List.set]
            refine Rest.om 5 46 rfl fun K hK => ?_
            go_simp
            have hS3 : Keeps (fun b => b < wr.heap.size ∧ (Value.slice Ab i cb).ownBlock ≠ some b) wr ((x1.alloc (.cells (rowF m3 (fun _ => 0)) 27)).alloc (.cells #[.int .i64 127, .int .i64 124, .int .i64 126, .int .i64 127] 3)) := hS2.trans (.below ((Below.refl _ _).alloc (Nat.le_refl _) _) fun b hb => Nat.lt_of_lt_of_le hb.1 hSB2.size)
            have hSB3 : Below wr.heap.size wr ((x1.alloc (.cells (rowF m3 (fun _ => 0)) 27)).alloc (.cells #[.int .i64 127, .int .i64 124, .int .i64 126, .int .i64 127] 3)) := hSB2.alloc hSB2.size _
            have hn1 := heap_alloc2_old x1 (.cells (rowF m3 (fun _ => 0)) 27) (.cells #[.int .i64 127, .int .i64 124, .int .i64 126, .int .i64 127] 3)
            have hn2 := heap_alloc2_new x1 (.cells (rowF m3 (fun _ => 0)) 27) (.cells #[.int .i64 127, .int .i64 124, .int .i64 126, .int .i64 127] 3)
            refine hK.out _ _ (.inr hS3) ?_
            clear hK K hS2 hSB2 hmk3
            try simp only [List.setIfInBounds_toArray, List.set]
            have hx1 := hSB.size
            generalize (x1.alloc (.cells (rowF m3 (fun _ => 0)) 27)).alloc (.cells #[.int .i64 127, .int .i64 124, .int .i64 126, .int .i64 127] 3) = x3 at hS3 hSB3 hn1 hn2 ⊢
            have hfw : FRow x3 (x1.heap.size) m3 (fun _ => 0) := hn1
            have hwl := hfw.lt
            have htl := (Array.getElem?_eq_some_iff.1 hn2).1
            refine Rest.tk 8 49 rfl hS3 ?_
            refine Rest.tk 9 50 rfl hS3 ?_
            refine Rest.om 10 51 rfl fun K hK => ?_
            go_simp
            have hS4 : Keeps (fun b => b < wr.heap.size ∧ (Value.slice Ab i cb).ownBlock ≠ some b) wr (x3.alloc (.cells #[.int .i64 (i : Int), .slice (some ⟨x1.heap.size, 0, none⟩) m3 m3, .slice (some ⟨x1.heap.size + 1, 0, none⟩) m 4] 30)) := hS3.trans (.below ((Below.refl _ _).alloc (Nat.le_refl _) _) fun b hb => Nat.lt_of_lt_of_le hb.1 hSB3.size)
            have hSB4 : Below wr.heap.size wr (x3.alloc (.cells #[.int .i64 (i : Int), .slice (some ⟨x1.heap.size, 0, none⟩) m3 m3, .slice (some ⟨x1.heap.size + 1, 0, none⟩) m 4] 30)) := hSB3.alloc hSB3.size _
            have hnews := news_new x3 #[.int .i64 (i : Int), .slice (some ⟨x1.heap.size, 0, none⟩) m3 m3, .slice (some ⟨x1.heap.size + 1, 0, none⟩) m 4] 30 1 1
            have hk34 : Keeps (fun b => b < x3.heap.size) x3 (x3.alloc (.cells #[.int .i64 (i : Int), .slice (some ⟨x1.heap.size, 0, none⟩) m3 m3, .slice (some ⟨x1.heap.size + 1, 0, none⟩) m 4] 30)) := .below ((Below.refl _ _).alloc (Nat.le_refl _) _) fun _ h => h
            have hz4 : x3.heap.size < (x3.alloc (.cells #[.int .i64 (i : Int), .slice (some ⟨x1.heap.size, 0, none⟩) m3 m3, .slice (some ⟨x1.heap.size + 1, 0, none⟩) m 4] 30)).heap.size := by simp
            refine hK.out _ _ (.inr hS4) ?_
            clear hK K hS3
            try simp only [List.setIfInBounds_toArray, List.set]
            have how := (HM1.out.below hSB4).o2
            generalize x3.alloc (.cells #[.int .i64 (i : Int), .slice (some ⟨x1.heap.size, 0, none⟩) m3 m3, .slice (some ⟨x1.heap.size + 1, 0, none⟩) m 4] 30) = x4 at hS4 hSB4 hnews hk34 hz4 how ⊢
            have hone4 : ∀ u ∈ ([.int .i64 (i : Int), .slice (some ⟨x1.heap.size, 0, none⟩) m3 m3, .slice (some ⟨x1.heap.size + 1, 0, none⟩) m 4] : List Value), u.oneCell' = true := by
              intro u hu; simp only [List.mem_cons, List.not_mem_nil, or_false] at hu; rcases hu with rfl | rfl | rfl <;> rfl
            refine Rest.om 11 52 rfl fun K hK => ?_
            refine step_append_row rfl (.tmp 41) (.tmp 51) 23 30 rfl _ 3 56 Try.underlying23 Try.infoAsk rfl (by decide) (by decide) (.slice Ab i cb) i ys (by rfl) how _ 1 [.int .i64 (i : Int), .slice (some ⟨x1.heap.size, 0, none⟩) m3 m3, .slice (some ⟨x1.heap.size + 1, 0, none⟩) m 4] (by rfl) (by rfl) hnews hone4 (by omega) ?_
            intro v5 x5 hown5 hgr5 hat5
            have hS5 : Keeps (fun b => b < wr.heap.size ∧ (Value.slice Ab i cb).ownBlock ≠ some b) wr x5 := hS4.trans (.grown hgr5 (fun b hb => Nat.lt_of_lt_of_le hb.1 hSB4.size) (fun j e hk => hk.2 e))
            have hk35 : Keeps (fun b => b < x3.heap.size ∧ (Value.slice Ab i cb).ownBlock ≠ some b) x3 x5 := (hk34.mono fun b hb => hb.1).trans (.grown hgr5 (fun b hb => by have := hb.1; omega) (fun j e hk => hk.2 e))
            have hne : ∀ b, wr.heap.size ≤ b → (Value.slice Ab i cb).ownBlock ≠ some b := fun b hb e => by have := (HM1.out.d2 b e).2.1; omega
            have hz5 := hk35.size
            have hfw5 : FRow x5 (x1.heap.size) m3 (fun _ => 0) := hfw.next hk35 ⟨hwl, hne _ (by omega)⟩
            have ht5 := (hk35.block (x1.heap.size + 1) ⟨htl, hne _ (by omega)⟩).trans hn2
            have hM5 := HM1.out.push2 (D' := fun b => (D b ∨ b = wo.heap.size) ∨ b = x1.heap.size ∨ b = x1.heap.size + 1) (w1 := x5) (v := v5) (z := (i : Int)) (u := .slice (some ⟨x1.heap.size, 0, none⟩) m3 m3) (u2 := .slice (some ⟨x1.heap.size + 1, 0, none⟩) m 4) (n := m3) (f := fun _ => 0) (T := [127, 124, 126, 127].take m) (fun b hb => .inl hb) (fun b hb => by
              rcases hb with hb | hb | hb
              · exact .inl hb
              · exact .inr ⟨by omega, by omega⟩
              · exact .inr ⟨by omega, by omega⟩) (hfw5.words (.inr (.inl rfl)) (by omega) fun j _ => show (0 : Nat) < 18446744073709551616 by decide) (four_ints ht5 (.inr (.inr rfl)) hm4) hown5 hS5 (by
              rcases hat5 with h9 | h9
              · exact .inl h9
              · refine .inr fun g e => ?_
                have e2 : x4.heap.size = g := by have := h9.symm.trans e; simpa using this
                refine ⟨by have := hSB4.size; omega, fun hd => ?_⟩
                rcases hd with hd | hd | hd
                · have := HM1.out.dl g hd; have := hSB4.size; omega
                · omega
                · omega)
            have HM5 := Lib.hid hM5
            refine hK.out _ _ (.inr hS5) ?_
            clear hK K hS4 hown5 hgr5 hat5 hM5 hfw5 ht5 hk35 how hnews
            try simp only [Act.put, List.setIfInBounds_toArray, List.set]
            refine Rest.om 12 2 rfl fun K hK => ?_
            go_simp
            refine hK.out _ _ (.inl rfl) ?_
            clear hK K
            try simp only [List.setIfInBounds_toArray, List.set]
            refine Rest.done (by kernel_rfl) ?_ _
            go_wp2
            go_roundw
            case rel => exact ⟨i + 1, _, _, _, by go_num, by omega, HM5⟩
            case measure => simp [intOf]; omega
          · refine Comes.m 46 rfl fun K hK => ?_
            go_simp
            have hS2 : Keeps (fun b => b < wr.heap.size ∧ (Value.slice Ab i cb).ownBlock ≠ some b) wr (x1.alloc (.cells #[.int .i64 127, .int .i64 124, .int .i64 126, .int .i64 127] 3)) := hS.trans (.below ((Below.refl _ _).alloc (Nat.le_refl _) _) fun b hb => Nat.lt_of_lt_of_le hb.1 hSB.size)
            have hSB2 : Below wr.heap.size wr (x1.alloc (.cells #[.int .i64 127, .int .i64 124, .int .i64 126, .int .i64 127] 3)) := hSB.alloc hSB.size _
            refine hK.out _ _ (.inr hS2) ?_
            clear hK K hS
            try simp only [List.setIfInBounds_toArray, List.set]
            refine Rest.tk 8 49 rfl hS2 ?_
            refine Rest.om 4 45 rfl fun K hK => ?_
            have hmk3 := run_make_words m3 (by omega) (x1.alloc (.cells #[.int .i64 127, .int .i64 124, .int .i64 126, .int .i64 127] 3))
            go_simp
            have hS3 : Keeps (fun b => b < wr.heap.size ∧ (Value.slice Ab i cb).ownBlock ≠ some b) wr ((x1.alloc (.cells #[.int .i64 127, .int .i64 124, .int .i64 126, .int .i64 127] 3)).alloc (.cells (rowF m3 (fun _ => 0)) 27)) := hS2.trans (.below ((Below.refl _ _).alloc (Nat.le_refl _) _) fun b hb => Nat.lt_of_lt_of_le hb.1 hSB2.size)
            have hSB3 : Below wr.heap.size wr ((x1.alloc (.cells #[.int .i64 127, .int .i64 124, .int .i64 126, .int .i64 127] 3)).alloc (.cells (rowF m3 (fun _ => 0)) 27)) := hSB2.alloc hSB2.size _
            have hn1 := heap_alloc2_old x1 (.cells #[.int .i64 127, .int .i64 124, .int .i64 126, .int .i64 127] 3) (.cells (rowF m3 (fun _ => 0)) 27)
            have hn2 := heap_alloc2_new x1 (.cells #[.int .i64 127, .int .i64 124, .int .i64 126, .int .i64 127] 3) (.cells (rowF m3 (fun _ => 0)) 27)
            refine hK.out _ _ (.inr hS3) ?_
            clear hK K hS2 hSB2 hmk3
            try simp only [List.setIfInBounds_toArray, List.set]
            have hx1 := hSB.size
            generalize (x1.alloc (.cells #[.int .i64 127, .int .i64 124, .int .i64 126, .int .i64 127] 3)).alloc (.cells (rowF m3 (fun _ => 0)) 27) = x3 at hS3 hSB3 hn1 hn2 ⊢
            have hfw : FRow x3 (x1.heap.size + 1) m3 (fun _ => 0) := hn2
            have hwl := hfw.lt
            have htl := (Array.getElem?_eq_some_iff.1 hn1).1
            refine Rest.tk 9 50 rfl hS3 ?_
            refine Rest.om 10 51 rfl fun K hK => ?_
            go_simp
            have hS4 : Keeps (fun b => b < wr.heap.size ∧ (Value.slice Ab i cb).ownBlock ≠ some b) wr (x3.alloc (.cells #[.int .i64 (i : Int), .slice (some ⟨x1.heap.size + 1, 0, none⟩) m3 m3, .slice (some ⟨x1.heap.size, 0, none⟩) m 4] 30)) := hS3.trans (.below ((Below.refl _ _).alloc (Nat.le_refl _) _) fun b hb => Nat.lt_of_lt_of_le hb.1 hSB3.size)
            have hSB4 : Below wr.heap.size wr (x3.alloc (.cells #[.int .i64 (i : Int), .slice (some ⟨x1.heap.size + 1, 0, none⟩) m3 m3, .slice (some ⟨x1.heap.size, 0, none⟩) m 4] 30)) := hSB3.alloc hSB3.size _
            have hnews := news_new x3 #[.int .i64 (i : Int), .slice (some ⟨x1.heap.size + 1, 0, none⟩) m3 m3, .slice (some ⟨x1.heap.size, 0, none⟩) m 4] 30 1 1
            have hk34 : Keeps (fun b => b < x3.heap.size) x3 (x3.alloc (.cells #[.int .i64 (i : Int), .slice (some ⟨x1.heap.size + 1, 0, none⟩) m3 m3, .slice (some ⟨x1.heap.size, 0, none⟩) m 4] 30)) := .below ((Below.refl _ _).alloc (Nat.le_refl _) _) fun _ h => h
            have hz4 : x3.heap.size < (x3.alloc (.cells #[.int .i64 (i : Int), .slice (some ⟨x1.heap.size + 1, 0, none⟩) m3 m3, .slice (some ⟨x1.heap.size, 0, none⟩) m 4] 30)).heap.size := by simp
            refine hK.out _ _ (.inr hS4) ?_
            clear hK K hS3
            try simp only [List.setIfInBounds_toArray, List.set]
            have how := (HM1.out.below hSB4).o2
            generalize x3.alloc (.cells #[.int .i64 (i : Int), .slice (some ⟨x1.heap.size + 1, 0, none⟩) m3 m3, .slice (some ⟨x1.heap.size, 0, none⟩) m 4] 30) = x4 at hS4 hSB4 hnews hk34 hz4 how ⊢
            have hone4 : ∀ u ∈ ([.int .i64 (i : Int), .slice (some ⟨x1.heap.size + 1, 0, none⟩) m3 m3, .slice (some ⟨x1.heap.size, 0, none⟩) m 4] : List Value), u.oneCell' = true := by
              intro u hu; simp only [List.mem_cons, List.not_mem_nil, or_false] at hu; rcases hu with rfl | rfl | rfl <;> rfl
            refine Rest.om 11 52 rfl fun K hK => ?_
            refine step_append_row rfl (.tmp 41) (.tmp 51) 23 30 rfl _ 3 56 Try.underlying23 Try.infoAsk rfl (by decide) (by decide) (.slice Ab i cb) i ys (by rfl) how _ 1 [.int .i64 (i : Int), .slice (some ⟨x1.heap.size + 1, 0, none⟩) m3 m3, .slice (some ⟨x1.heap.size, 0, none⟩) m 4] (by rfl) (by rfl) hnews hone4 (by omega) ?_
            intro v5 x5 hown5 hgr5 hat5
            have hS5 : Keeps (fun b => b < wr.heap.size ∧ (Value.slice Ab i cb).ownBlock ≠ some b) wr x5 := hS4.trans (.grown hgr5 (fun b hb => Nat.lt_of_lt_of_le hb.1 hSB4.size) (fun j e hk => hk.2 e))
            have hk35 : Keeps (fun b => b < x3.heap.size ∧ (Value.slice Ab i cb).ownBlock ≠ some b) x3 x5 := (hk34.mono fun b hb => hb.1).trans (.grown hgr5 (fun b hb => by have := hb.1; omega) (fun j e hk => hk.2 e))
            have hne : ∀ b, wr.heap.size ≤ b → (Value.slice Ab i cb).ownBlock ≠ some b := fun b hb e => by have := (HM1.out.d2 b e).2.1; omega
            have hz5 := hk35.size
            have hfw5 : FRow x5 (x1.heap.size + 1) m3 (fun _ => 0) := hfw.next hk35 ⟨hwl, hne _ (by omega)⟩
            have ht5 := (hk35.block (x1.heap.size) ⟨htl, hne _ (by omega)⟩).trans hn1
            have hM5 := HM1.out.push2 (D' := fun b => (D b ∨ b = wo.heap.size) ∨ b = x1.heap.size + 1 ∨ b = x1.heap.size) (w1 := x5) (v := v5) (z := (i : Int)) (u := .slice (some ⟨x1.heap.size + 1, 0, none⟩) m3 m3) (u2 := .slice (some ⟨x1.heap.size, 0, none⟩) m 4) (n := m3) (f := fun _ => 0) (T := [127, 124, 126, 127].take m) (fun b hb => .inl hb) (fun b hb => by
              rcases hb with hb | hb | hb
              · exact .inl hb
              · exact .inr ⟨by omega, by omega⟩
              · exact .inr ⟨by omega, by omega⟩) (hfw5.words (.inr (.inl rfl)) (by omega) fun j _ => show (0 : Nat) < 18446744073709551616 by decide) (four_ints ht5 (.inr (.inr rfl)) hm4) hown5 hS5 (by
              rcases hat5 with h9 | h9
              · exact .inl h9
              · refine .inr fun g e => ?_
                have e2 : x4.heap.size = g := by have := h9.symm.trans e; simpa using this
                refine ⟨by have := hSB4.size; omega, fun hd => ?_⟩
                rcases hd with hd | hd | hd
                · have := HM1.out.dl g hd; have := hSB4.size; omega
                · omega
                · omega)
            have HM5 := Lib.hid hM5
            refine hK.out _ _ (.inr hS5) ?_
            clear hK K hS4 hown5 hgr5 hat5 hM5 hfw5 ht5 hk35 how hnews
            try simp only [Act.put, List.setIfInBounds_toArray, List.set]
            refine Rest.om 12 2 rfl fun K hK => ?_
            go_simp
            refine hK.out _ _ (.inl rfl) ?_
            clear hK K
            try simp only [List.setIfInBounds_toArray, List.set]
            refine Rest.done (by kernel_rfl) ?_ _
            go_wp2
            go_roundw
            case rel => exact ⟨i + 1, _, _, _, by go_num, by omega, HM5⟩
            case measure => simp [intOf]; omega
          --END
    · obtain rfl : i = 30 := by omega
      obtain ⟨L, hL⟩ := HM.out.ans (by decide)
      obtain ⟨Q, hQ⟩ := HM.out.asks (by decide)
      obtain ⟨Aa, ca, rfl, hca, _⟩ := id hL
      obtain ⟨Ab, cb, rfl, hcb, _⟩ := id hQ
      have HL := Lib.hid hL
      have HQ := Lib.hid hQ
      have H1 := Lib.hid (hplays_any hL (fun _ h => h) hQ)
      clear hL hQ
      go_wp2_with fail
      go_at_call 4
      refine H1.out.mono ?_
      rintro e w1 ⟨rfl, hb1⟩
      have H2 := Lib.hid (hplays_any (HL.out.keep (K' := fun b => b < w1.heap.size) (.below hb1 fun _ h => h) fun b hb => Nat.lt_of_lt_of_le hb hb1.size) (fun _ h => h) ((HQ.out.take (m := 10) (by decide)).keep (K' := fun b => b < w1.heap.size) (.below hb1 fun _ h => h) fun b hb => Nat.lt_of_lt_of_le hb hb1.size))
      go_wp2_with fail
      go_at_call 4
      refine H2.out.mono ?_
      rintro e w2 ⟨rfl, hb2⟩
      replace hb2 := hb1.trans (hb2.mono hb1.size)
      have H3 := Lib.hid (hplays_any ((HL.out.take (m := 3) (by decide)).keep (K' := fun b => b < w2.heap.size) (.below hb2 fun _ h => h) fun b hb => Nat.lt_of_lt_of_le hb hb2.size) (fun _ h => h) (HQ.out.keep (K' := fun b => b < w2.heap.size) (.below hb2 fun _ h => h) fun b hb => Nat.lt_of_lt_of_le hb hb2.size))
      clear H1 H2 hb1
      go_wp2_with fail
      go_at_call 4
      refine H3.out.mono ?_
      rintro e w3 ⟨rfl, hb3⟩
      replace hb3 := hb2.trans (hb3.mono hb2.size)
      clear H3 hb2
      go_wp2_with (go_at_call 6; refine (known_any _).mono ?_; rintro e w9 ⟨rfl, hb9⟩)
      go_ret
      exact ⟨rfl, HM.out.acc.trans ((hb3.trans (hb9.mono hb3.size)).mono HM.out.acc.size)⟩
end Go.Proofs.Ytlgfappnlnhddaa
