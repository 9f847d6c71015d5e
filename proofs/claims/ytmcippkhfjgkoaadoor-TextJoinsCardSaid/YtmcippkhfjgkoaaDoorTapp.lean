/-
  append of bytes: what it leaves; onto a block that a string was copied into.
-/
import Derived.Test.YtmcippkhfjgkoaaDoorLapp
import Derived.Test.YtmcippkhfjgkoaaDoorTnum
import Derived.ArgAppend
import Derived.Lib.LazyBuf
import Derived.Laws.IdiomCopy
import Derived.BigFrame
namespace Go.Proofs.YtmcippkhfjgkoaaDoor
open Go.RowKit

/-! ### What an append leaves -/
theorem Appended.oldB {w w' : World} {base g g' n m cap' : Nat} {xs ys : List Nat} (h : Appended w w' base g g' n m cap' xs ys) (hb : Bytes w (some ⟨g, 0, none⟩) xs) (hn : xs.length = n) : Bytes w' (some ⟨g, 0, none⟩) xs :=
  ⟨hb.1, fun hl => by
    obtain ⟨q, o, he, hq, hc⟩ := hb.2 hl
    simp only [Option.some.injEq, Addr.mk.injEq] at he
    obtain ⟨rfl, rfl, _⟩ := he
    refine ⟨g, 0, rfl, Nat.lt_of_lt_of_le hq h.grown.size, fun j hj => ?_⟩
    rw [Nat.zero_add, h.kept j (by omega)]
    have := hc j hj
    rwa [Nat.zero_add] at this⟩
theorem Appended.farB {w w' : World} {base g g' n m cap' q o : Nat} {xs ys zs : List Nat} (h : Appended w w' base g g' n m cap' xs ys) (hb : Bytes w (some ⟨q, o, none⟩) zs) (hq : q ≠ g) : Bytes w' (some ⟨q, o, none⟩) zs :=
  ⟨hb.1, fun hl => by
    obtain ⟨r, p, he, hr, hc⟩ := hb.2 hl
    simp only [Option.some.injEq, Addr.mk.injEq] at he
    obtain ⟨rfl, rfl, _⟩ := he
    refine ⟨q, o, rfl, Nat.lt_of_lt_of_le hr h.grown.size, fun j hj => ?_⟩
    rw [h.grown.cell_far _ hr (by simpa using hq)]
    exact hc j hj⟩
theorem Appended.newB {w w' : World} {base g g' n m cap' : Nat} {xs ys : List Nat} (h : Appended w w' base g g' n m cap' xs ys) (hn : xs.length = n) (hm : ys.length = m) (hx : ∀ x ∈ xs, x < 256) (hy : ∀ x ∈ ys, x < 256) : Bytes w' (some ⟨g', 0, none⟩) (xs ++ ys) ∧ n + m ≤ cap' := by
  have hl : (xs ++ ys).length = n + m := by rw [List.length_append, hn, hm]
  have ho := h.own
  rw [← hl] at ho
  obtain ⟨A, c, hv, hc, hb⟩ := bytes_owned ho (fun x hxy => (List.mem_append.1 hxy).elim (hx x) (hy x))
  simp only [Value.slice.injEq] at hv
  obtain ⟨rfl, _, rfl⟩ := hv
  exact ⟨hb, by rw [← hl]; exact hc⟩
theorem Appended.belowB {w0 w w' : World} {base g g' n m cap' : Nat} {xs ys : List Nat} (h : Appended w w' base g g' n m cap' xs ys) (hb : Below w0.heap.size w0 w) (hg : w0.heap.size ≤ g) : Below w0.heap.size w0 w' :=
  hb.grown h.grown hb.size (fun k hk => by cases hk; exact hg)

/-! ### A block with room -/
/-- Block g holds the bytes xs, and room for more; none of its places is barred. -/
structure RoomB (w : World) (g n cap : Nat) (xs : List Nat) : Prop where
  len : xs.length = n
  fits : n ≤ cap
  bytes : Bytes w (some ⟨g, 0, none⟩) xs
  lt : g < w.heap.size
  room : ∀ j, j < cap → (w.cell? ⟨g, j, none⟩).isSome = true ∧ w.frozen? ⟨g, j, none⟩ = false
theorem RoomB.below {w w' : World} {g n cap : Nat} {xs : List Nat} (h : RoomB w g n cap xs) (hb : Below w.heap.size w w') : RoomB w' g n cap xs :=
  ⟨h.len, h.fits, h.bytes.below hb, Nat.lt_of_lt_of_le h.lt hb.size, fun j hj => by
    rw [hb.cell (p := ⟨g, j, none⟩) h.lt, hb.frozen (p := ⟨g, j, none⟩) h.lt]; exact h.room j hj⟩
theorem conv_room (w : World) (s : ByteArray) : RoomB (Lib.bytesWorld w 5 s) w.heap.size s.size (grownCap w s.size 0 5) (nums s) := by
  have hcap := grownCap_ge w s.size 0 5
  have hsz : (Lib.bytesCells w 5 s).size = grownCap w s.size 0 5 := by
    unfold Lib.bytesCells
    rw [Array.size_append, Array.size_map, Array.size_replicate]
    show s.size + _ = _
    omega
  refine ⟨nums_length s, hcap, bytes_conv w s, by rw [Lib.bytesWorld_size]; omega, fun j hj => ?_⟩
  have hat := Lib.bytesWorld_at_new w 5 s
  constructor
  · simp only [World.cell?, hat]
    simp [hsz, hj]
  · simp only [World.frozen?, hat]
    simp; omega

theorem room_append (w : World) (ty : TypeId) (base g n cap : Nat) (xs : List Nat) (h : RoomB w g n cap xs) (hg : base ≤ g) (A : Option Addr) (m c : Nat) (ys : List Nat) (hm : ys.length = m) (hsrc : Bytes w A ys) (hnm : n + m ≤ 1000000) :
    ∃ g' cap' w', (Builtin.append_ #[23, 23] ty #[.slice (some ⟨g, 0, none⟩) n cap, .slice A m c]).run Tryd.prog w = .ok (.slice (some ⟨g', 0, none⟩) (n + m) cap') w' ∧ Bytes w' (some ⟨g', 0, none⟩) (xs ++ ys) ∧ n + m ≤ cap' ∧ Below base w w' := by
  obtain ⟨i0, hi, hz0, hz1, hz2⟩ := info_parts Tryd.info_byte
  rcases A with _ | ad
  · have h0 : m = 0 := by
      rcases Nat.eq_zero_or_pos m with h0 | h0
      · exact h0
      · obtain ⟨_, _, h, _⟩ := hsrc.2 (by omega); cases h
    subst h0
    obtain rfl : ys = [] := List.eq_nil_of_length_eq_zero hm
    refine ⟨g, cap, w, ?_, by simpa using h.bytes, h.fits, Below.refl _ _⟩
    simp [Builtin.append_, run_underlying Tryd.underlying23, sizeOf, typeInfo, hi, Builtin.lenOf, Builtin.firstCells, h.fits, storeCells]
  · have hn := hsrc.news
    have h1 : ∀ u ∈ ys.map byt, u.oneCell' = true := bytes_one ys
    have hby : ∀ x ∈ xs ++ ys, x < 256 := fun x hxy => (List.mem_append.1 hxy).elim (h.bytes.1 x) (hsrc.1 x)
    by_cases hroom : n + m ≤ cap
    · have hc : ∀ j, j < (ys.map byt).length → (w.cell? ⟨g, 0 + n * i0.size + j, none⟩).isSome = true := fun j hj => by
        rw [hz1, Nat.zero_add, Nat.mul_one]; rw [List.length_map] at hj; exact (h.room (n + j) (by omega)).1
      have hf : ∀ j, j < (ys.map byt).length → w.frozen? ⟨g, 0 + n * i0.size + j, none⟩ = false := fun j hj => by
        rw [hz1, Nat.zero_add, Nat.mul_one]; rw [List.length_map] at hj; exact (h.room (n + j) (by omega)).2
      have hr := run_append_room_cells (P := Tryd.prog) w 23 ty 5 i0 Tryd.underlying23 hi g 0 n cap ad m c (ys.map byt) (by rw [hz1, List.length_map, Nat.mul_one]; exact hm) hn h1 hroom hc hf
      rw [hz1, Nat.zero_add, Nat.mul_one] at hr hc
      refine ⟨g, cap, _, hr, ⟨hby, fun _ => ⟨g, 0, rfl, ?_, fun j hj => ?_⟩⟩, hroom, _root_.Go.below_setCells hg _ _ _ (Below.refl _ _)⟩
      · exact Nat.lt_of_lt_of_le h.lt (_root_.Go.below_setCells hg (ys.map byt) n w (Below.refl base w)).size
      · rw [Nat.zero_add]
        rw [List.length_append, h.len] at hj
        by_cases hj2 : j < n
        · rw [World.cell?_setCells_out g (ys.map byt) n w ⟨g, j, none⟩ (fun _ _ => .inl hj2)]
          obtain ⟨q, o, he, _, hc2⟩ := h.bytes.2 (by rw [h.len]; omega)
          simp only [Option.some.injEq, Addr.mk.injEq] at he
          obtain ⟨rfl, rfl, _⟩ := he
          have := hc2 j (by rw [h.len]; exact hj2)
          rw [Nat.zero_add] at this
          rw [this, List.getD_eq_getElem?_getD, List.getD_eq_getElem?_getD, List.getElem?_append_left (by rw [h.len]; exact hj2)]
        · obtain ⟨t, rfl⟩ : ∃ t, j = n + t := ⟨j - n, by omega⟩
          have ht : t < (ys.map byt).length := by rw [List.length_map]; omega
          rw [World.cell?_setCells_in g (ys.map byt) n w hc t ht]
          have ht2 : t < ys.length := by omega
          have e : (xs ++ ys).getD (n + t) 0 = ys[t] := by
            rw [List.getD_eq_getElem?_getD, List.getElem?_append_right (by rw [h.len]; omega), h.len, Nat.add_sub_cancel_left, List.getElem?_eq_getElem ht2]; rfl
          rw [e, List.getElem_map]; rfl
    · have holds : ∀ j u, (xs.map byt)[j]? = some u → w.cell? ((⟨g, 0, none⟩ : Addr).add j) = some u := h.bytes.news
      obtain ⟨v', w', hr, hown, hgr⟩ := run_append_arg_grows (P := Tryd.prog) (w := w) 23 ty 5 i0 _ 1 1 Tryd.underlying23 hi hz0 hz1 hz2 rfl (by decide) ⟨g, 0, none⟩ n cap (xs.map byt) (by rw [List.length_map, Nat.mul_one]; exact h.len) holds ad m c (ys.map byt) (by rw [List.length_map, Nat.mul_one]; exact hm) hn (by omega) (by unfold maxLen; omega) (by omega)
      rw [← List.map_append] at hown
      have hl : (xs ++ ys).length = n + m := by rw [List.length_append, h.len, hm]
      have hm0 : 0 < n + m := by have := h.fits; omega
      obtain ⟨g', cap', rfl, _, _⟩ := hown.form hm0
      rw [← hl] at hown
      obtain ⟨A', c', hv, hc', hb'⟩ := bytes_owned hown hby
      simp only [Value.slice.injEq] at hv
      obtain ⟨rfl, _, rfl⟩ := hv
      have hlt := h.lt
      exact ⟨g', cap', w', hr, hb', by rw [← hl]; exact hc', (Below.refl base w).grown hgr (by omega) (fun k hk => by cases hk)⟩

/-- append onto a block with room, for the walk; the operation may be guarded. -/
theorem wpList_room_append {ops : Array Oper} {rest : List Oper} {o : Oper} {a : Act} {w : World} {Q : Exit → Act → World → Prop} (hw : Region.wanted o (yielded ops a.tmps) = true) (s x : Operand)
    (ho : o.op = .call { callee := .builtin .append, args := #[s, x], argTypes := #[23, 23] })
    (base g n cap : Nat) (xs : List Nat) (hs : a.eval s = .slice (some ⟨g, 0, none⟩) n cap) (h : RoomB w g n cap xs) (hg : base ≤ g) (A : Option Addr) (m c : Nat) (ys : List Nat) (hx : a.eval x = .slice A m c) (hm : ys.length = m) (hsrc : Bytes w A ys) (hnm : n + m ≤ 1000000)
    (hk : ∀ g' cap' w', Bytes w' (some ⟨g', 0, none⟩) (xs ++ ys) → n + m ≤ cap' → Below base w w' → wpList Tryd.prog ops Q rest (a.put o.dst (.slice (some ⟨g', 0, none⟩) (n + m) cap')) w') : wpList Tryd.prog ops Q (o :: rest) a w := by
  refine BigFrame.wpList_want hw fun K hK => ?_
  obtain ⟨g', cap', w', hr, h1, h2, h3⟩ := room_append w o.type base g n cap xs h hg A m c ys hm hsrc hnm
  unfold Oper.wp execOp
  simp only [ho, resolve, invoke, builtin, Sem.run_bind, Sem.run_pure, Result.andThen_ok, List.map_toArray, List.map_cons, List.map_nil, hs, hx, hr]
  exact hK _ _ (hk g' cap' w' h1 h2 h3)
end Go.Proofs.YtmcippkhfjgkoaaDoor
