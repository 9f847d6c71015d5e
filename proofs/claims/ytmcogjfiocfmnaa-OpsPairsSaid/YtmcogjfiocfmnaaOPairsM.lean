/-
  What OpsPairs' walk wants beside the contracts: the place in All, rows that are carried along, kinds that are counted.
-/
import Derived.Test.YtmcogjfiocfmnaaOall
import Derived.Deep.RegionHeld3
import Derived.Deep.AppendLies
namespace Go.Proofs.Ytmcogjfiocfmnaa
open Go.RowKit

/-! ### Within -/
def withinN (k : Int) : Nat := if 0 ≤ k ∧ k ≤ 149 then k.toNat else if k.tmod 150 < 0 then (k.tmod 150 + 150).toNat else (k.tmod 150).toNat
theorem within_bounds (k : Int) : withinN k ≤ 149 := by
  have := Int.lt_tmod_of_pos k (b := 150) (by decide)
  have := Int.tmod_lt_of_pos k (b := 150) (by decide)
  unfold withinN; split
  · omega
  · split <;> omega
theorem ret_int {k : IntKind} {a b : Int} (h : a = b) : Ending.returned (.int k a) = .returned (.int k b) := by rw [h]
theorem within_any (k : Int) (w : World) : Calls Try.prog 12 #[.int .i64 k, .int .i64 0, .int .i64 149] w fun e w' => e = .returned (.int .i64 (withinN k : Int)) ∧ w = w' := by
  have t0 := Int.lt_tmod_of_pos k (b := 150) (by decide)
  have t1 := Int.tmod_lt_of_pos k (b := 150) (by decide)
  by_cases h : 0 ≤ k ∧ k ≤ 149
  · have e : (withinN k : Int) = k := by unfold withinN; rw [if_pos h]; omega
    rw [e]
    obtain ⟨h0, h1⟩ := h
    clear e
    go_enter Try.func12, Try.ntmps12
    go_wp2
    go_ret
    exact ⟨rfl, rfl⟩
  · have h' : k < 0 ∨ 149 < k := by omega
    by_cases hn : k.tmod 150 < 0
    · have e : (withinN k : Int) = k.tmod 150 + 150 := by unfold withinN; rw [if_neg h, if_pos hn]; omega
      have E := Lib.hid e
      clear e h
      rcases h' with h | h
      · go_enter Try.func12, Try.ntmps12
        go_wp2
        go_ret
        exact ⟨ret_int (by rw [E.out]; omega), rfl⟩
      · have := Int.tmod_nonneg 150 (by omega : 0 ≤ k)
        omega
    · have e : (withinN k : Int) = k.tmod 150 := by unfold withinN; rw [if_neg h, if_neg hn]; omega
      have E := Lib.hid e
      clear e h
      rcases h' with h | h
      · go_enter Try.func12, Try.ntmps12
        go_wp2
        go_ret
        exact ⟨ret_int (by rw [E.out]), rfl⟩
      · have hz : 0 ≤ k := by omega
        go_enter Try.func12, Try.ntmps12
        go_wp2
        go_ret
        exact ⟨ret_int (by rw [E.out]; rw [Int.tmod_eq_emod_of_nonneg hz]), rfl⟩

/-! ### What is carried along -/
theorem all_form {w : World} {v : Value} (h : RowOf w v allL) : ∃ g cap : Nat, v = .slice (some ⟨g, 0, none⟩) 150 cap := by
  rcases h with ⟨_, h⟩ | ⟨g, cap, h, _⟩
  · cases h
  · exact ⟨g, cap, by rw [h, all_length]⟩
theorem RowOf.at {w : World} {g n cap : Nat} {xs : List Int} (h : RowOf w (.slice (some ⟨g, 0, none⟩) n cap) xs) : g < w.heap.size ∧ ∀ j, j < xs.length → w.cell? ⟨g, j, none⟩ = some (.int .i64 (xs.getD j 0)) := by
  rcases h with ⟨h, _⟩ | ⟨g', cap', h, h1, _, _, h2⟩
  · cases h
  · cases h; exact ⟨h1, h2⟩
theorem RowOf.news {w : World} {g n cap : Nat} {xs : List Int} (h : RowOf w (.slice (some ⟨g, 0, none⟩) n cap) xs) : ∀ j u, (xs.map (Value.int .i64))[j]? = some u → w.cell? ((⟨g, 0, none⟩ : Addr).add j) = some u := by
  intro j u hu
  have e : (⟨g, 0, none⟩ : Addr).add j = ⟨g, j, none⟩ := by unfold Addr.add; split <;> simp_all
  rw [e]
  obtain ⟨x, hx, rfl⟩ : ∃ x, xs[j]? = some x ∧ Value.int .i64 x = u := by simpa using hu
  have hj : j < xs.length := by
    rcases Nat.lt_or_ge j xs.length with h1 | h1
    · exact h1
    · rw [List.getElem?_eq_none h1] at hx; cases hx
  have h2 := h.at.2 j hj
  rw [h2, List.getD_eq_getElem?_getD, hx]; rfl
/-- All's row, the struct's two rows in block s, and what they read as. -/
structure Held (w : World) (l : Value) (s : Nat) (p q : Value) (ps rs : List Int) (wr : World) : Prop where
  rl : RowOf wr l allL
  c0 : wr.cell? ⟨s, 0, none⟩ = some p
  c1 : wr.cell? ⟨s, 1, none⟩ = some q
  lt : s < wr.heap.size
  rp : RowOf wr p ps
  rq : RowOf wr q rs
  acc : Below w.heap.size w wr
theorem Held.next {w wr w' : World} {l : Value} {s : Nat} {p q : Value} {ps rs : List Int} (h : Held w l s p q ps rs wr) (hb : Below wr.heap.size wr w') : Held w l s p q ps rs w' :=
  ⟨h.rl.below hb, (hb.cell (p := ⟨s, 0, none⟩) h.lt).trans h.c0, (hb.cell (p := ⟨s, 1, none⟩) h.lt).trans h.c1, Nat.lt_of_lt_of_le h.lt hb.size, h.rp.below hb, h.rq.below hb, h.acc.trans (hb.mono h.acc.size)⟩
theorem held_first {w w1 : World} {l p q : Value} {ps rs : List Int} {t : TypeId} (hl : RowOf w1 l allL) (h1 : RowOf w1 p ps) (h2 : RowOf w1 q rs) (b1 : Below w.heap.size w w1) : Held w l w1.heap.size p q ps rs (w1.alloc (.cells #[p, q] t)) := by
  have ba : Below w1.heap.size w1 (w1.alloc (.cells #[p, q] t)) := (Below.refl _ _).alloc (Nat.le_refl _) _
  exact ⟨hl.below ba, by simp, by simp, by simp, h1.below ba, h2.below ba, b1.trans (ba.mono b1.size)⟩

/-! ### Numeric at an operation that is known to be one, or none -/
abbrev NumIs (m : Nat) (a b : Int) (w : World) (e : Ending) (w' : World) : Prop := ∃ g c h d : Nat, e = .returned (.tuple #[.agg #[.slice (some ⟨g, 0, none⟩) m c, .slice (some ⟨h, 0, none⟩) 1 d], .bool true]) ∧
  RowOf w' (.slice (some ⟨g, 0, none⟩) m c) (List.replicate m a) ∧ RowOf w' (.slice (some ⟨h, 0, none⟩) 1 d) [b] ∧ Below w.heap.size w w'
theorem num_is (op : Int) (m : Nat) (hm : 0 < m) (a b : Int) (h : numB op = true) (hs : sigB op = (m, a, b)) (w : World) : Calls Try.prog 13 #[.int .i64 op] w (NumIs m a b w) :=
  (num_any op w).mono fun e w' hp => by
    obtain ⟨p, q, rfl, hp, hq, hb⟩ := hp
    rw [show paramsB op = List.replicate m a by unfold paramsB; rw [h, hs]; rfl] at hp
    rw [show resultsB op = [b] by unfold resultsB; rw [h, hs]; rfl] at hq
    rw [h]
    rcases hp with ⟨_, h0⟩ | ⟨g, c, rfl, p1, p2, p3, p4⟩
    · have := congrArg List.length h0; simp at this; omega
    · rcases hq with ⟨_, h0⟩ | ⟨k, d, rfl, q1, q2, q3, q4⟩
      · cases h0
      · rw [List.length_replicate] at *
        exact ⟨g, c, k, d, rfl, .inr ⟨g, c, by rw [List.length_replicate], p1, by rw [List.length_replicate]; exact p2, by rw [List.length_replicate]; exact p3, by rw [List.length_replicate]; exact p4⟩, .inr ⟨k, d, rfl, q1, q2, q3, q4⟩, hb⟩
abbrev NumNot (w : World) (e : Ending) (w' : World) : Prop := e = .returned (.tuple #[.agg #[.slice none 0 0, .slice none 0 0], .bool false]) ∧ Below w.heap.size w w'
theorem num_not (op : Int) (h : numB op = false) (w : World) : Calls Try.prog 13 #[.int .i64 op] w (NumNot w) :=
  (num_any op w).mono fun e w' hp => by
    obtain ⟨p, q, rfl, hp, hq, hb⟩ := hp
    rw [show paramsB op = [] by unfold paramsB; rw [h]; rfl] at hp
    rw [show resultsB op = [] by unfold resultsB; rw [h]; rfl] at hq
    rw [h]
    rcases hp with ⟨rfl, _⟩ | ⟨_, _, _, _, p2, _⟩
    · rcases hq with ⟨rfl, _⟩ | ⟨_, _, _, _, q2, _⟩
      · exact ⟨rfl, hb⟩
      · simp at q2
    · simp at p2

/-! ### Types, kinds -/
def isT (x : Int) : Bool := x == 127 || x == 126 || x == 124
theorem sig_types (op : Int) : numB op = true → isT (sigB op).2.1 = true ∧ isT (sigB op).2.2 = true :=
  by_cases3 (fun op => numB op = true → isT (sigB op).2.1 = true ∧ isT (sigB op).2.2 = true) (by decide +kernel) (by decide +kernel) (fun op h e => by rw [far_num op h] at e; cases e) op
theorem acc_types (op : Int) : (accB op).2.2.2 = (decide (0 < (accB op).1) && (accB op).2.1 != 0) :=
  by_cases3 (fun op => (accB op).2.2.2 = (decide (0 < (accB op).1) && (accB op).2.1 != 0)) (by decide +kernel) (by decide +kernel) (fun op h => by rw [far_acc op h]; rfl) op
/-- How many of the first k hold. -/
def cnt (bs : List Bool) : Nat → Nat
  | 0 => 0
  | k + 1 => cnt bs k + if bs.getD k false then 1 else 0
theorem cnt_kinds (op : Int) : cnt [numB op, (accB op).2.2.2, constB op != 0, opensB op] 4 = kinds op := by
  unfold kinds; simp [cnt]
theorem all_rise (i : Nat) (h : i < 149) : allL.getD i 0 < allL.getD (i + 1) 0 := all_rises ⟨i, h⟩

/-! ### A row that begins empty -/
theorem owns_empty (w : World) (e : TypeId) : ((w.alloc (.cells #[] e)).drew).ownsRow w.heap.size e 1 (.slice (some ⟨w.heap.size, 0, none⟩) 0 0) 0 [] := by
  refine ⟨rfl, .inr ⟨w.heap.size, 0, #[], rfl, Nat.le_refl _, ?_, Nat.le_refl _, by unfold maxLen; omega, rfl, rfl⟩⟩
  show (w.heap.push _)[w.heap.size]? = _
  simp
theorem below_empty (w : World) (e : TypeId) : Below w.heap.size w ((w.alloc (.cells #[] e)).drew) := ((Below.refl _ _).alloc (Nat.le_refl _) _).drew
theorem ints_one (xs : List Int) : ∀ u ∈ xs.map (Value.int .i64), u.oneCell' = true := by
  intro u hu; obtain ⟨x, _, rfl⟩ := List.mem_map.1 hu; rfl
theorem below_own {w w1 w2 : World} {g n c : Nat} (hb : Below w.heap.size w w1) (hg : w1.grownBy w2 (Value.ownBlock (.slice (some ⟨g, 0, none⟩) n c))) (h : w.heap.size ≤ g) : Below w.heap.size w w2 :=
  hb.grown hg hb.size (fun k hk => by simp [Value.ownBlock] at hk; omega)
theorem own_ge {g n c B H : Nat} (h : Value.ownBlock (.slice (some ⟨B, 0, none⟩) n c) = some g ∨ g = H) (hH : B ≤ H) : B ≤ g := by
  rcases h with h | h
  · have h2 : B = g := by simpa [Value.ownBlock] using h
    omega
  · omega
theorem new_bools (w : World) (t : TypeId) (xs : List Bool) (j : Nat) (h : j < xs.length) :
    (w.alloc (.cells (xs.map Value.bool).toArray t)).cell? ⟨w.heap.size, j, none⟩ = some (.bool (xs.getD j false)) := by
  rw [World.cell?_alloc_new]; simp [h]
theorem cnt_yes (bs : List Bool) (k : Nat) (h : bs.getD k false = true) : cnt bs (k + 1) = cnt bs k + 1 := by
  show cnt bs k + _ = _; rw [h]; rfl
theorem cnt_no (bs : List Bool) (k : Nat) (h : bs.getD k false = false) : cnt bs (k + 1) = cnt bs k := by
  show cnt bs k + _ = _; rw [h]; rfl
theorem cnt_le (bs : List Bool) : ∀ k, cnt bs k ≤ k
  | 0 => Nat.le_refl _
  | k + 1 => by have := cnt_le bs k; show cnt bs k + _ ≤ _; split <;> omega
theorem isT_ways {y : Int} (h : isT y = true) : y = 127 ∨ y = 126 ∨ y = 124 := by
  unfold isT at h; simp at h; omega
theorem acc_way (op : Int) : (0 < (accB op).1 ∧ ((accB op).2.1 != 0) = true ∧ (accB op).2.2.2 = true) ∨ (¬ 0 < (accB op).1 ∧ (accB op).2.2.2 = false) :=
  by_cases3 (fun op => (0 < (accB op).1 ∧ ((accB op).2.1 != 0) = true ∧ (accB op).2.2.2 = true) ∨ (¬ 0 < (accB op).1 ∧ (accB op).2.2.2 = false)) (by decide +kernel) (by decide +kernel) (fun op h => by rw [far_acc op h]; exact .inr ⟨by decide, rfl⟩) op
theorem types_at (ys : List Int) (h : ∀ x ∈ ys, isT x = true) (t : Nat) (ht : t < ys.length) : isT (ys.getD t 0) = true := by
  have e : ys.getD t 0 = ys[t] := by simp [ht]
  rw [e]; exact h _ (List.getElem_mem ht)
end Go.Proofs.Ytmcogjfiocfmnaa
