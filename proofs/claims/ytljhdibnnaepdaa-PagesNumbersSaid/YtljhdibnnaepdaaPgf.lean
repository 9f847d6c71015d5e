/-
  Two memories of the program beside two of the document: what one call leaves of them.
-/
import Derived.Test.YtljhdibnnaepdaaPgk
namespace Go.Proofs.Ytljhdibnnaepdaa
open Go.RowKit

/-- Where the four memories lie: places 0 and 1 (box and bytes) the program's, 2 and 3 the document's, 4 to 7 the others. -/
abbrev Feet := Nat → Nat
def Feet.set (f : Feet) (i v : Nat) : Feet := fun j => if j = i then v else f j
/-- Two memories that hold la and lb and may have mx pages, and two others that hold lo. -/
structure Four (w0 : World) (f : Feet) (la lb lo : List Nat) (mx : Nat) (w : World) : Prop where
  a : Pg 52 (f 0) (f 1) la mx w
  b : Pg 46 (f 2) (f 3) lb mx w
  o : Pg 52 (f 4) (f 5) lo 1 w
  x : Pg 46 (f 6) (f 7) lo 1 w
  inj : ∀ i j, i < 8 → j < 8 → f i = f j → i = j
  lo_ : ∀ i, i < 8 → w0.heap.size ≤ f i
  acc : Below w0.heap.size w0 w
variable {w0 w w' : World} {f : Feet} {la lb lo l2 : List Nat} {mx : Nat}
theorem Four.lt (h : Four w0 f la lb lo mx w) : ∀ i, i < 8 → f i < w.heap.size := by
  intro i hi
  match i, hi with
  | 0, _ => exact h.a.ltP
  | 1, _ => exact h.a.ltB
  | 2, _ => exact h.b.ltP
  | 3, _ => exact h.b.ltB
  | 4, _ => exact h.o.ltP
  | 5, _ => exact h.o.ltB
  | 6, _ => exact h.x.ltP
  | 7, _ => exact h.x.ltB
  | _ + 8, h => exact absurd h (by omega)
theorem Four.far (h : Four w0 f la lb lo mx w) {i j k : Nat} (hi : i < 8) (hj : j < 8) (hk : k < 8) (h1 : i ≠ j) (h2 : i ≠ k) : f i ∉ [f j, f k] := by
  intro hm
  simp only [List.mem_cons, List.not_mem_nil, or_false] at hm
  rcases hm with hm | hm
  · exact h1 (h.inj i j hi hj hm)
  · exact h2 (h.inj i k hi hk hm)
theorem Four.below (h : Four w0 f la lb lo mx w) (hb : Below w.heap.size w w') : Four w0 f la lb lo mx w' :=
  ⟨h.a.next (but_of hb []) (by simp) (by simp), h.b.next (but_of hb []) (by simp) (by simp), h.o.next (but_of hb []) (by simp) (by simp), h.x.next (but_of hb []) (by simp) (by simp), h.inj, h.lo_, below_then h.acc hb⟩
theorem Four.drewN (h : Four w0 f la lb lo mx w) (n : Nat) : Four w0 f la lb lo mx (w.drewN n) := h.below (below_drewN (Below.refl _ _) n)
theorem Four.set_inj (h : Four w0 f la lb lo mx w) (k B' : Nat) (hB : B' = f k ∨ w.heap.size ≤ B') : ∀ i j, i < 8 → j < 8 → f.set k B' i = f.set k B' j → i = j := by
  rcases hB with rfl | hB
  · have e : f.set k (f k) = f := by
      funext j
      unfold Feet.set
      split
      · rename_i h; rw [h]
      · rfl
    rw [e]; exact h.inj
  · intro i j hi hj he
    have h1 := h.lt i hi
    have h2 := h.lt j hj
    unfold Feet.set at he
    split at he <;> split at he
    · omega
    · omega
    · omega
    · exact h.inj i j hi hj he
theorem Four.set_lo (h : Four w0 f la lb lo mx w) (k B' : Nat) (hk : k < 8) (hB : B' = f k ∨ w.heap.size ≤ B') : ∀ i, i < 8 → w0.heap.size ≤ f.set k B' i := by
  intro i hi
  have h1 := h.lo_ i hi
  have h2 := h.lo_ k hk
  have h3 := h.acc.size
  unfold Feet.set
  split <;> omega
/-- A call turns the program's one. -/
theorem Four.stepA (h : Four w0 f la lb lo mx w) {B' : Nat} (hb : But [f 0, f 1] w w') (hB : B' = f 1 ∨ w.heap.size ≤ B') (hg : Pg 52 (f 0) B' l2 mx w') : Four w0 (f.set 1 B') l2 lb lo mx w' :=
  ⟨hg, h.b.next hb (h.far (by decide) (by decide) (by decide) (by decide) (by decide)) (h.far (by decide) (by decide) (by decide) (by decide) (by decide)),
    h.o.next hb (h.far (by decide) (by decide) (by decide) (by decide) (by decide)) (h.far (by decide) (by decide) (by decide) (by decide) (by decide)),
    h.x.next hb (h.far (by decide) (by decide) (by decide) (by decide) (by decide)) (h.far (by decide) (by decide) (by decide) (by decide) (by decide)),
    h.set_inj 1 B' hB, h.set_lo 1 B' (by decide) hB, h.acc.trans (hb.below (by
      intro k hk
      simp only [List.mem_cons, List.not_mem_nil, or_false] at hk
      rcases hk with rfl | rfl
      · exact h.lo_ 0 (by decide)
      · exact h.lo_ 1 (by decide)) h.acc.size)⟩
/-- A call turns the document's one. -/
theorem Four.stepB (h : Four w0 f la lb lo mx w) {B' : Nat} (hb : But [f 2, f 3] w w') (hB : B' = f 3 ∨ w.heap.size ≤ B') (hg : Pg 46 (f 2) B' l2 mx w') : Four w0 (f.set 3 B') la l2 lo mx w' :=
  ⟨h.a.next hb (h.far (by decide) (by decide) (by decide) (by decide) (by decide)) (h.far (by decide) (by decide) (by decide) (by decide) (by decide)), hg,
    h.o.next hb (h.far (by decide) (by decide) (by decide) (by decide) (by decide)) (h.far (by decide) (by decide) (by decide) (by decide) (by decide)),
    h.x.next hb (h.far (by decide) (by decide) (by decide) (by decide) (by decide)) (h.far (by decide) (by decide) (by decide) (by decide) (by decide)),
    h.set_inj 3 B' hB, h.set_lo 3 B' (by decide) hB, h.acc.trans (hb.below (by
      intro k hk
      simp only [List.mem_cons, List.not_mem_nil, or_false] at hk
      rcases hk with rfl | rfl
      · exact h.lo_ 2 (by decide)
      · exact h.lo_ 3 (by decide)) h.acc.size)⟩
/-- What a call of the program leaves: it answers v, and its memory holds l2. -/
def LeftA (w0 : World) (f : Feet) (v : Value) (l2 lb lo : List Nat) (mx : Nat) (w : World) (e : Ending) (w' : World) : Prop :=
  e = .returned v ∧ ∃ B', (B' = f 1 ∨ w.heap.size ≤ B') ∧ But [f 0, f 1] w w' ∧ Four w0 (f.set 1 B') l2 lb lo mx w'
def LeftB (w0 : World) (f : Feet) (v : Value) (la l2 lo : List Nat) (mx : Nat) (w : World) (e : Ending) (w' : World) : Prop :=
  e = .returned v ∧ ∃ B', (B' = f 3 ∨ w.heap.size ≤ B') ∧ But [f 2, f 3] w w' ∧ Four w0 (f.set 3 B') la l2 lo mx w'
theorem left_a {fn : FuncId} {args : Array Value} {v : Value} (h : Four w0 f la lb lo mx w) (hc : Calls Try.prog fn args w (Wrote 52 (f 0) (f 1) v l2 mx w)) : Calls Try.prog fn args w (LeftA w0 f v l2 lb lo mx w) :=
  hc.mono fun e w' ⟨h1, h2, h3⟩ => by
    have h4 : But [f 0, f 1] w w' := h2.mono fun k hk => .inl (by simp at hk ⊢; exact .inr hk)
    exact ⟨h1, f 1, .inl rfl, h4, h.stepA h4 (.inl rfl) h3⟩
theorem left_b {fn : FuncId} {args : Array Value} {v : Value} (h : Four w0 f la lb lo mx w) (hc : Calls Try.prog fn args w (Wrote 46 (f 2) (f 3) v l2 mx w)) : Calls Try.prog fn args w (LeftB w0 f v la l2 lo mx w) :=
  hc.mono fun e w' ⟨h1, h2, h3⟩ => by
    have h4 : But [f 2, f 3] w w' := h2.mono fun k hk => .inl (by simp at hk ⊢; exact .inr hk)
    exact ⟨h1, f 3, .inl rfl, h4, h.stepB h4 (.inl rfl) h3⟩

/-! ### One call of each, as the statements ask for it -/
theorem both_fill (h : Four w0 f la la lo mx w) (q v n : Nat) (hv : v < 256) : ∃ (r : Bool) (l2 : List Nat),
    Calls Try.prog 22 #[.pointer (some ⟨f 0, 0, none⟩), .int .u64 (q : Int), .int .u8 (v : Int), .int .u64 (n : Int)] w (LeftA w0 f (.bool r) l2 la lo mx w) ∧
    ∀ f' w', f' 2 = f 2 → Four w0 f' l2 la lo mx w' → Calls Try.prog 27 #[.pointer (some ⟨f 2, 0, none⟩), .int .u64 (q : Int), .int .u8 (v : Int), .int .u64 (n : Int)] w' (LeftB w0 f' (.bool r) l2 l2 lo mx w') := by
  by_cases hq : q + n ≤ la.length
  · exact ⟨true, _, left_a h (fill_yes h.a q v n hv hq), fun f' w' e h' => e ▸ left_b h' (rfill_yes h'.b q v n hv hq)⟩
  · exact ⟨false, _, left_a h (fill_no h.a q v n hq), fun f' w' e h' => e ▸ left_b h' (rfill_no h'.b q v n hq)⟩
theorem both_store (h : Four w0 f la la lo mx w) (q v : Nat) (n : Int) : ∃ (r : Bool) (l2 : List Nat),
    Calls Try.prog 20 #[.pointer (some ⟨f 0, 0, none⟩), .int .u64 (q : Int), .int .i64 n, .int .u64 (v : Int)] w (LeftA w0 f (.bool r) l2 la lo mx w) ∧
    ∀ f' w', f' 2 = f 2 → Four w0 f' l2 la lo mx w' → Calls Try.prog 29 #[.pointer (some ⟨f 2, 0, none⟩), .int .u64 (q : Int), .int .i64 n, .int .u64 (v : Int)] w' (LeftB w0 f' (.bool r) l2 l2 lo mx w') := by
  by_cases hq : wideB n = true ∧ (q : Int) + n ≤ la.length
  · obtain ⟨hw, hq⟩ := hq
    obtain ⟨k, rfl, hk⟩ := wideB_yes hw
    exact ⟨true, _, left_a h (store_yes h.a q v k hk (by omega)), fun f' w' e h' => e ▸ left_b h' (rstore_yes h'.b q v k hk (by omega))⟩
  · exact ⟨false, _, left_a h (store_no h.a q v n hq), fun f' w' e h' => e ▸ left_b h' (rstore_no h'.b q v n hq)⟩
theorem both_load (w0 : World) (f : Feet) (la lo : List Nat) (mx : Nat) (q : Nat) (n : Int) : ∃ (v : Nat) (r : Bool),
    (∀ w', Four w0 f la la lo mx w' → Calls Try.prog 21 #[.pointer (some ⟨f 0, 0, none⟩), .int .u64 (q : Int), .int .i64 n] w' (LoadPost v r w')) ∧
    ∀ w', Four w0 f la la lo mx w' → Calls Try.prog 26 #[.pointer (some ⟨f 2, 0, none⟩), .int .u64 (q : Int), .int .i64 n] w' (LoadPost v r w') := by
  by_cases hq : wideB n = true ∧ (q : Int) + n ≤ la.length
  · obtain ⟨hw, hq⟩ := hq
    obtain ⟨k, rfl, hk⟩ := wideB_yes hw
    exact ⟨_, true, fun w' h' => load_yes h'.a q k hk (by omega), fun w' h' => rload_yes h'.b q k hk (by omega)⟩
  · exact ⟨_, false, fun w' h' => load_no h'.a q n hq, fun w' h' => rload_no h'.b q n hq⟩
theorem both_put (h : Four w0 f la la lo mx w) (q : Nat) (A : Option Addr) (ys : List Nat) (n c : Nat) (hn : ys.length = n) (hy : Bytes w0 A ys) (hm : n ≤ 50) : ∃ (r : Bool) (l2 : List Nat),
    Calls Try.prog 11 #[.pointer (some ⟨f 0, 0, none⟩), .int .u64 (q : Int), .slice A n c] w (LeftA w0 f (.bool r) l2 la lo mx w) ∧
    ∀ f' w', f' 2 = f 2 → Four w0 f' l2 la lo mx w' → Calls Try.prog 18 #[.pointer (some ⟨f 2, 0, none⟩), .int .u64 (q : Int), .slice A n c] w' (LeftB w0 f' (.bool r) l2 l2 lo mx w') := by
  subst hn
  by_cases hq : q + ys.length ≤ la.length
  · exact ⟨true, _, left_a h (put_yes h.a q A ys c (hy.below h.acc) hq), fun f' w' e h' => e ▸ left_b h' (rput_yes h'.b q A ys c (hy.below h'.acc) hq)⟩
  · exact ⟨false, _, left_a h (put_no h.a q A ys.length c hq (by unfold maxLen; omega)), fun f' w' e h' => e ▸ left_b h' (rput_no h'.b q A ys.length c hq (by unfold maxLen; omega))⟩
theorem both_grow (h : Four w0 f la la lo mx w) (n : Int) : ∃ (r : Int) (l2 : List Nat),
    Calls Try.prog 14 #[.pointer (some ⟨f 0, 0, none⟩), .int .i64 n] w (LeftA w0 f (.int .i64 r) l2 la lo mx w) ∧
    ∀ f' w', f' 2 = f 2 → Four w0 f' l2 la lo mx w' → Calls Try.prog 25 #[.pointer (some ⟨f 2, 0, none⟩), .int .i64 n] w' (LeftB w0 f' (.int .i64 r) l2 l2 lo mx w') := by
  obtain ⟨k, hk, hkm⟩ := h.a.len
  by_cases hq : n < 0 ∨ (mx : Int) < k + n
  · exact ⟨_, _, left_a h (grow_no h.a k n hk hq), fun f' w' e h' => e ▸ left_b h' (rgrow_no h'.b k n hk hq)⟩
  · obtain ⟨m, rfl⟩ : ∃ m : Nat, n = m := ⟨n.toNat, by omega⟩
    refine ⟨_, _, (grow_yes h.a k m hk (by omega)).mono fun e w' ⟨B', h1, h2, h3, h4⟩ => ⟨h1, B', h3, h2, h.stepA h2 h3 h4⟩, fun f' w' e h' => ?_⟩
    rw [← e]
    exact (rgrow_yes h'.b k m hk (by omega)).mono fun e w'' ⟨B', h1, h2, h3, h4⟩ => ⟨h1, B', h3, h2, h'.stepB h2 h3 h4⟩
theorem both_copy (h : Four w0 f la la lo mx w) (q s n : Nat) : ∃ (r : Bool) (l2 : List Nat),
    Calls Try.prog 13 #[.pointer (some ⟨f 0, 0, none⟩), .int .u64 (q : Int), .pointer (some ⟨f 0, 0, none⟩), .int .u64 (s : Int), .int .u64 (n : Int)] w (LeftA w0 f (.bool r) l2 la lo mx w) ∧
    ∀ f' w', f' 2 = f 2 → Four w0 f' l2 la lo mx w' → Calls Try.prog 28 #[.pointer (some ⟨f 2, 0, none⟩), .int .u64 (q : Int), .pointer (some ⟨f 2, 0, none⟩), .int .u64 (s : Int), .int .u64 (n : Int)] w' (LeftB w0 f' (.bool r) l2 l2 lo mx w') := by
  by_cases hq : q + n ≤ la.length ∧ s + n ≤ la.length
  · refine ⟨true, _, left_a h (copy_yes h.a h.a q s n hq.1 hq.2), fun f' w' e h' => e ▸ left_b h' ?_⟩
    rcases Nat.eq_zero_or_pos n with rfl | h0
    · rw [List.take_zero, splice_nil]
      exact rcopy_zero h'.b h'.b q s (by omega) (by omega)
    · exact rcopy_yes h'.b h'.b q s n hq.1 hq.2 h0
  · exact ⟨false, _, left_a h (copy_no h.a h.a q s n hq), fun f' w' e h' => e ▸ left_b h' (rcopy_no h'.b h'.b q s n hq)⟩
theorem both_other (h : Four w0 f la la lo mx w) (q s n : Nat) : ∃ (r : Bool) (l2 : List Nat),
    Calls Try.prog 13 #[.pointer (some ⟨f 0, 0, none⟩), .int .u64 (q : Int), .pointer (some ⟨f 4, 0, none⟩), .int .u64 (s : Int), .int .u64 (n : Int)] w (LeftA w0 f (.bool r) l2 la lo mx w) ∧
    ∀ f' w', f' 2 = f 2 → f' 6 = f 6 → Four w0 f' l2 la lo mx w' → Calls Try.prog 28 #[.pointer (some ⟨f 2, 0, none⟩), .int .u64 (q : Int), .pointer (some ⟨f 6, 0, none⟩), .int .u64 (s : Int), .int .u64 (n : Int)] w' (LeftB w0 f' (.bool r) l2 l2 lo mx w') := by
  by_cases hq : q + n ≤ la.length ∧ s + n ≤ lo.length
  · refine ⟨true, _, left_a h (copy_yes h.a h.o q s n hq.1 hq.2), fun f' w' e e2 h' => e ▸ e2 ▸ left_b h' ?_⟩
    rcases Nat.eq_zero_or_pos n with rfl | h0
    · rw [List.take_zero, splice_nil]
      exact rcopy_zero h'.b h'.x q s (by omega) (by omega)
    · exact rcopy_yes h'.b h'.x q s n hq.1 hq.2 h0
  · exact ⟨false, _, left_a h (copy_no h.a h.o q s n hq), fun f' w' e e2 h' => e ▸ e2 ▸ left_b h' (rcopy_no h'.b h'.x q s n hq)⟩
end Go.Proofs.Ytljhdibnnaepdaa
