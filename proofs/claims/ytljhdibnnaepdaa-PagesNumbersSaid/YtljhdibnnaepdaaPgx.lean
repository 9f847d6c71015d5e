/-
  Contracts of package pages' Bytes, Copy and Grow; append of zeros.
-/
import Derived.Test.YtljhdibnnaepdaaPgw
namespace Go.Proofs.Ytljhdibnnaepdaa
open Go.RowKit
variable {p B p2 B2 : Nat} {l l2 : List Nat} {mx mx2 : Nat} {w w' : World}

/-! ### Bytes -/
/-- A slice of its own comes back that holds l. -/
def BytesOut (l : List Nat) (w : World) (e : Ending) (w' : World) : Prop := ∃ F, e = .returned (.slice (some ⟨F, 0, none⟩) l.length l.length) ∧ w.heap.size ≤ F ∧ w'.heap[F]? = some (.cells (l.map byt).toArray 5 (0, 0)) ∧ Below w.heap.size w w'
theorem splice_full (n : Nat) (xs : List Value) (h : xs.length = n) : splice (List.replicate n (byt 0)) 0 xs = xs := by
  unfold splice
  simp [h]
theorem bytes_out (hg : Pg 52 p B l mx w) : Calls Try.prog 12 #[.pointer (some ⟨p, 0, none⟩)] w (BytesOut l w) := by
  obtain ⟨c, hc, c0⟩ := hg.cell0
  have hf := hg.fits
  have hp := hg.ltP
  have hmk := run_make_zeros l.length (by omega) w
  have c1 : (w.alloc (.cells (Array.replicate l.length (byt 0)) 5)).cell? ⟨p, 0, none⟩ = some (.slice (some ⟨B, 0, none⟩) l.length c) := by rw [World.cell?_alloc_lt _ _ _ (by exact hp)]; exact c0
  have HB := Lib.hid (hg.bytes.below ((Below.refl w.heap.size w).alloc (Nat.le_refl _) (.cells (Array.replicate l.length (byt 0)) 5)))
  have HW := Lib.hid ((Below.refl w.heap.size w).alloc (Nat.le_refl _) (.cells (Array.replicate l.length (byt 0)) 5))
  have HN := Lib.hid (show (w.alloc (.cells (Array.replicate l.length (byt 0)) 5)).heap[w.heap.size]? = some (.cells (List.replicate l.length (byt 0)).toArray 5 (0, 0)) by rw [heap_alloc_new]; simp)
  obtain ⟨n, hn⟩ : ∃ n, l.length = n := ⟨_, rfl⟩
  rw [hn] at hc c0 hf hmk c1 HB HW HN
  have HL := Lib.hid hn
  clear hg hn hp
  go_enter Try.func12, Try.ntmps12
  go_upto_region 2 with fail
  generalize w.alloc (.cells (Array.replicate n (byt 0)) 5) = w1 at *
  go_wp2_with (with_reducible refine wpList_copy_bytes rfl (.tmp 10) (.tmp 14) rfl w.heap.size 0 n n n c _ (some ⟨B, 0, none⟩) rfl rfl (List.replicate n (byt 0)) l HN.out HL.out HB.out (fun _ => rfl) ?c2 ?_)
  case c2 => simp
  intro w2 hb2 hw2
  go_wp2
  go_ret
  refine ⟨w.heap.size, by rw [HL.out]; rfl, Nat.le_refl _, ?_, HW.out.trans (hb2.below (by simp) HW.out.size)⟩
  rw [hw2.out, splice_full]
  · rw [← List.map_take, List.take_of_length_le (by rw [HL.out]; exact Nat.le_refl _)]
  · rw [List.length_take, List.length_map, HL.out, Nat.min_self]

/-! ### Copy -/
theorem copy_yes (hg : Pg 52 p B l mx w) (hg2 : Pg 52 p2 B2 l2 mx2 w) (q s n : Nat) (h : q + n ≤ l.length) (h2 : s + n ≤ l2.length) :
    Calls Try.prog 13 #[.pointer (some ⟨p, 0, none⟩), .int .u64 (q : Int), .pointer (some ⟨p2, 0, none⟩), .int .u64 (s : Int), .int .u64 (n : Int)] w (Wrote 52 p B (.bool true) (splice l q ((l2.drop s).take n)) mx w) := by
  have C := Lib.hid (part_yes hg q n h)
  have C2 := Lib.hid (part_yes hg2 s n h2)
  obtain ⟨r, e1, e2, e3⟩ := hg.ex
  have hf := hg.fits
  have hlen : ((l2.drop s).take n).length = n := by simp; omega
  have HPART := Lib.hid fun (A : Option Addr) (hA : 0 < n → A = some ⟨B2, s, none⟩) => hg2.part s n h2 A hA
  have G := Lib.hid hg
  have E2 := Lib.hid e2
  clear hg hg2 e1 e2 e3 h2
  generalize (l2.drop s).take n = ys at *
  have HL := Lib.hid hlen
  clear hlen
  go_enter Try.func13, Try.ntmps13
  go_upto_region 4 with (go_at_call 23; refine C.out.mono ?_; rintro e w' ⟨rfl, A, c, rfl, h1, h2⟩; have H2 := Lib.hid h2; clear h2)
  go_upto_region 7 with (go_at_call 23; refine C2.out.mono ?_; rintro e w' ⟨rfl, A2, c2, rfl, h3, h4⟩; have H4 := Lib.hid h4; clear h4)
  go_wp2_with (with_reducible refine wpList_copy_bytes rfl (.tmp 41) (.tmp 42) rfl B q n _ n _ A A2 rfl rfl (l.map byt ++ r) ys E2.out HL.out (HPART.out A2 H4.out) ?c1 ?c2 ?_)
  case c1 => intro h0; exact H2.out (by have : Nat.min n n = n := Nat.min_self n; omega)
  case c2 => have : Nat.min n n = n := Nat.min_self n; simp; omega
  intro w2 hb2 hw2
  go_wp2
  go_ret
  refine ⟨rfl, hb2, G.out.spliced q ys (by rw [HL.out]; exact h) (HPART.out A2 H4.out).1 hb2 fun cur hcur => ?_⟩
  have e : cur = l.map byt ++ r := by
    have := hcur.symm.trans E2.out
    simpa using this
  rw [e, hw2.out, List.take_of_length_le (by rw [List.length_map, HL.out]; exact Nat.le_refl _)]
theorem copy_no (hg : Pg 52 p B l mx w) (hg2 : Pg 52 p2 B2 l2 mx2 w) (q s n : Nat) (h : ¬ (q + n ≤ l.length ∧ s + n ≤ l2.length)) :
    Calls Try.prog 13 #[.pointer (some ⟨p, 0, none⟩), .int .u64 (q : Int), .pointer (some ⟨p2, 0, none⟩), .int .u64 (s : Int), .int .u64 (n : Int)] w (Wrote 52 p B (.bool false) l mx w) := by
  have G := Lib.hid hg
  by_cases h1 : q + n ≤ l.length
  · have C := Lib.hid (part_yes hg q n h1)
    have C2 := Lib.hid (part_no hg2 s n fun h2 => h ⟨h1, h2⟩)
    clear hg hg2 h h1
    go_enter Try.func13, Try.ntmps13
    go_upto_region 4 with (go_at_call 23; refine C.out.mono ?_; rintro e w' ⟨rfl, A, c, rfl, h1, h2⟩; have H2 := Lib.hid h2; clear h2)
    go_wp2_with (go_at_call 23; refine C2.out.mono ?_; rintro e w' ⟨rfl, rfl⟩)
    go_ret
    exact Wrote.same G.out
  · have C := Lib.hid (part_no hg q n h1)
    by_cases h2 : s + n ≤ l2.length
    · have C2 := Lib.hid (part_yes hg2 s n h2)
      clear hg hg2 h h1 h2
      go_enter Try.func13, Try.ntmps13
      go_upto_region 4 with (go_at_call 23; refine C.out.mono ?_; rintro e w' ⟨rfl, rfl⟩)
      go_wp2_with (go_at_call 23; refine C2.out.mono ?_; rintro e w' ⟨rfl, A, c, rfl, h1, h2⟩; have H2 := Lib.hid h2; clear h2)
      go_ret
      exact Wrote.same G.out
    · have C2 := Lib.hid (part_no hg2 s n h2)
      clear hg hg2 h h1 h2
      go_enter Try.func13, Try.ntmps13
      go_upto_region 4 with (go_at_call 23; refine C.out.mono ?_; rintro e w' ⟨rfl, rfl⟩)
      go_wp2_with (go_at_call 23; refine C2.out.mono ?_; rintro e w' ⟨rfl, rfl⟩)
      go_ret
      exact Wrote.same G.out
theorem copy_nil (q s n : Int) (w : World) :
    Calls Try.prog 13 #[.pointer none, .int .u64 q, .pointer (some ⟨p, 0, none⟩), .int .u64 s, .int .u64 n] w fun e w' => e = .returned (.bool false) ∧ w = w' := by
  go_enter Try.func13, Try.ntmps13
  go_wp2
  go_ret
  exact ⟨rfl, rfl⟩

/-! ### Grow -/
theorem zeroCells_byte (n : Nat) : Builtin.zeroCells (Value.int .u8 0).cells n = Array.replicate n (byt 0) := by
  apply Array.ext
  · simp [Builtin.zeroCells, Value.cells]
  · intro i h1 h2
    simp [Builtin.zeroCells, Value.cells, byt, Nat.mod_one]
theorem run_grow_bytes (g L N c : Nat) (ty : TypeId) (l : List Nat) (r : List Value) (hcur : w.heap[g]? = some (.cells (l.map byt ++ r).toArray 5 (0, 0))) (hL : l.length = L) (hc : c = L + r.length) (hm : c ≤ maxLen) (hN : L + N ≤ 1000000) :
    ∃ g' r' w', (Builtin.append_ #[27, 3] ty #[.slice (some ⟨g, 0, none⟩) L c, .int .i64 (N : Int)]).run Try.prog w = .ok (.slice (some ⟨g', 0, none⟩) (L + N) (L + N + r'.length)) w' ∧ But [g] w w' ∧ w'.heap[g']? = some (.cells ((l ++ List.replicate N 0).map byt ++ r').toArray 5 (0, 0)) ∧ L + N + r'.length ≤ maxLen ∧ (g' = g ∨ g' = w.heap.size) := by
  obtain ⟨i0, hi, hz0, hz1, hz2⟩ := info_parts Try.info_byte
  have ht := Try.underlying27
  have htn := Try.underlying3
  have hw : IntKind.i64.wrap (N : Int) = N := by rw [IntKind.wrap_i64]; omega
  have hneg : ¬ ((N : Int) < 0) := by omega
  have h48i : ¬ (281474976710656 < (N : Int) * (i0.bytes : Int)) := by rw [hz2]; omega
  by_cases hroom : N ≤ r.length
  · have hst := run_storeCells_at Try.prog g L 5 (List.replicate N (byt 0)) 0 (l.map byt ++ r).toArray w hcur (by simp; omega) (fun v hv => by have := List.eq_of_mem_replicate hv; subst this; rfl)
    simp only [Nat.add_zero] at hst
    have hz : (Builtin.zeroCells (Value.int .u8 0).cells N).toList = List.replicate N (byt 0) := by rw [zeroCells_byte]; simp
    have hL2 : L + N ≤ c := by omega
    have e : (((l.map byt ++ r).toArray.toList.take L ++ List.replicate N (byt 0) ++ (l.map byt ++ r).toArray.toList.drop (L + (List.replicate N (byt 0)).length)).toArray) = ((l ++ List.replicate N 0).map byt ++ r.drop N).toArray := by
      congr 1
      have e1 : (l.map byt ++ r).take L = l.map byt := by rw [List.take_append_of_le_length (by simp [hL]), List.take_of_length_le (by simp [hL])]
      have e2 : (l.map byt ++ r).drop (L + N) = r.drop N := by rw [List.drop_append, List.drop_eq_nil_of_le (by simp; omega)]; simp [hL]
      simp [e1, e2]
    rw [e] at hst
    refine ⟨g, r.drop N, w.setRow g ((l ++ List.replicate N 0).map byt ++ r.drop N).toArray, ?_, But.setRow w (by simp) _, setRow_heap w g _ _ _ _ hcur, by rw [List.length_drop]; omega, .inl rfl⟩
    · have ec : L + N + (r.drop N).length = c := by rw [List.length_drop]; omega
      rw [ec]
      by_cases h0 : N = 0
      · have e0 : List.replicate N (byt 0) = [] := by rw [h0]; rfl
        rw [e0] at hst
        simp [Builtin.append_, run_underlying ht, run_underlying htn, sizeOf, typeInfo, zeroValue, hi, hz0, asInt, asIntOf, hw, hneg, h48i, hL2, hz1, Addr.add_lit, hst]
        intro h; exact absurd h0 h
      · simp [Builtin.append_, run_underlying ht, run_underlying htn, sizeOf, typeInfo, zeroValue, hi, hz0, asInt, asIntOf, hw, hneg, h48i, hL2, hz, hz1, Addr.add_lit, hst]
        intro h; exact absurd h h0
  · have hold : (Builtin.firstCells i0.size L (.slice (some ⟨g, 0, none⟩) L c)).run Try.prog w.drew = .ok (l.map byt).toArray w.drew := by
      refine run_firstCells_some w.drew i0.size L ⟨g, 0, none⟩ L c (l.map byt) (by rw [hz1]; simp [hL]) fun j u hu => ?_
      have hj : j < (l.map byt).length := (List.getElem?_eq_some_iff.1 hu).1
      rw [add_lit0]
      show w.cell? ⟨g, j, none⟩ = some u
      rw [cell_of_row w g j _ _ _ hcur]
      simp only [List.getElem?_toArray]
      rw [List.getElem?_append_left hj, hu]
    have hcap := grownCap_le_maxLen w (L + N) c 5 (by unfold maxLen; omega)
    have hge : L + N ≤ grownCap w (L + N) c 5 := by
      simp only [grownCap, Question.cut]
      omega
    have hr := Go.Lib.run_append_grow_zeros (P := Try.prog) w 27 3 ty 5 i0 (.int .u8 0) .i64 .i64 ht htn hi hz0 (some ⟨g, 0, none⟩) L c (l.map byt) hold N (by omega) (by omega) (by omega) (by omega) (by rw [hz2]; omega) (growslice_fits (by omega) (by rw [hz2]; omega))
    refine ⟨w.heap.size, List.replicate (grownCap w (L + N) c 5 - (L + N)) (byt 0), w.drew.alloc (.cells (((l ++ List.replicate N 0).map byt ++ List.replicate (grownCap w (L + N) c 5 - (L + N)) (byt 0)).toArray) 5), ?_, (But.drew [g] w).trans (But.alloc [g] w.drew _), heap_alloc_new w.drew _, by simp; omega, .inr rfl⟩
    · rw [hr]
      have ec : L + N + (List.replicate (grownCap w (L + N) c 5 - (L + N)) (byt 0)).length = grownCap w (L + N) c 5 := by simp; omega
      rw [ec, zeroCells_byte, zeroCells_byte]
      congr 3
      apply Array.ext'
      simp
theorem wpList_grow_bytes {ops : Array Oper} {rest : List Oper} {o : Oper} {a : Act} {Q : Exit → Act → World → Prop} (hgd : o.guard = none) (s x : Operand)
    (ho : o.op = .call { callee := .builtin .append, args := #[s, x], argTypes := #[27, 3] })
    (g L N c : Nat) (hs : a.eval s = .slice (some ⟨g, 0, none⟩) L c) (hx : a.eval x = .int .i64 (N : Int)) (l : List Nat) (r : List Value) (hcur : w.heap[g]? = some (.cells (l.map byt ++ r).toArray 5 (0, 0))) (hL : l.length = L) (hc : c = L + r.length) (hm : c ≤ maxLen) (hN : L + N ≤ 1000000)
    (h : ∀ g' r' w', But [g] w w' → Hid (w'.heap[g']? = some (.cells ((l ++ List.replicate N 0).map byt ++ r').toArray 5 (0, 0))) → L + N + r'.length ≤ maxLen → Hid (g' = g ∨ g' = w.heap.size) → wpList Try.prog ops Q rest (a.put o.dst (.slice (some ⟨g', 0, none⟩) (L + N) (L + N + r'.length))) w') : wpList Try.prog ops Q (o :: rest) a w :=
  wpList_plain hgd fun _ hK => by
    obtain ⟨g', r', w', hr, h1, h2, h3, h4⟩ := run_grow_bytes g L N c o.type l r hcur hL hc hm hN
    unfold Oper.wp execOp
    simp only [ho, resolve, invoke, builtin, Sem.run_bind, Sem.run_pure, Result.andThen_ok, List.map_toArray, List.map_cons, List.map_nil, hs, hx, hr]
    exact hK _ _ (h g' r' w' h1 h2 h3 h4)
/-- It answers how many pages there were; the memory has so many more of zeros. -/
def GrewYes (T : TypeId) (p B k n : Nat) (l : List Nat) (mx : Nat) (w : World) (e : Ending) (w' : World) : Prop :=
  ∃ B2, e = .returned (.int .i64 (k : Int)) ∧ But [p, B] w w' ∧ (B2 = B ∨ w.heap.size ≤ B2) ∧ Pg T p B2 (l ++ List.replicate (1024 * n) 0) mx w'
theorem pg_grown {T : TypeId} {g : Nat} {l : List Nat} {r : List Value} {k n N : Nat} {w1 : World} {v : Value} (hg : Pg T p B l mx w) (hk : l.length = 1024 * k) (hkn : k + n ≤ mx) (hN : 1024 * n = N) (hb : But [B] w w1) (hcur : w1.heap[g]? = some (.cells ((l ++ List.replicate N 0).map byt ++ r).toArray 5 (0, 0))) (hm : l.length + N + r.length ≤ maxLen) (hg2 : g = B ∨ g = w.heap.size)
    (hv : v = .slice (some ⟨g, 0, none⟩) (l.length + N) (l.length + N + r.length)) :
    But [p, B] w (w1.setCell ⟨p, 0, none⟩ v) ∧ (g = B ∨ w.heap.size ≤ g) ∧ Pg T p g (l ++ List.replicate (1024 * n) 0) mx (w1.setCell ⟨p, 0, none⟩ v) := by
  obtain ⟨r0, h1, h2, h3⟩ := hg.ex
  have hp := hg.ltP
  have hne := hg.ne
  have hpg : p ≠ g := by rcases hg2 with rfl | rfl <;> omega
  refine ⟨(hb.mono (fun k hk => .inl (by simp at hk ⊢; exact .inr hk))).trans (But.setCell w1 (by simp) v), by omega, ⟨⟨r, ?_, ?_, by rw [hN]; simpa using hm⟩, hpg, fun x hx => ?_, hg.most, ⟨k + n, by rw [List.length_append, List.length_replicate]; omega, hkn⟩⟩⟩
  · have e := (hb.block p hp (by simpa using hne)).trans h1
    simp [World.setCell, Array.getElem?_modify, e, hv, hN]
  · rw [Below.heap_setCell _ _ _ _ (by simpa using hpg.symm), hN]; exact hcur
  · rcases List.mem_append.1 hx with hx | hx
    · exact hg.byte x hx
    · have := List.eq_of_mem_replicate hx; omega
theorem grow_yes (hg : Pg 52 p B l mx w) (k n : Nat) (hk : l.length = 1024 * k) (h : k + n ≤ mx) :
    Calls Try.prog 14 #[.pointer (some ⟨p, 0, none⟩), .int .i64 (n : Int)] w (GrewYes 52 p B k n l mx w) := by
  have C := Lib.hid (pages_any hg k hk)
  obtain ⟨r, e1, e2, e3⟩ := hg.ex
  have c0 : w.cell? ⟨p, 0, none⟩ = some (.slice (some ⟨B, 0, none⟩) l.length (l.length + r.length)) := by rw [cell_of_row w p 0 _ _ _ e1]; rfl
  have c1 := hg.cell1
  have hf := hg.fits
  have hmx := hg.most
  have hp := hg.ltP
  have hne := hg.ne
  have E2 := Lib.hid e2
  have G := Lib.hid hg
  have HK := Lib.hid hk
  have d0 : decide ((n : Int) < 0) = false := by simp
  have d1 : decide ((mx : Int) - k < (n : Int)) = false := by simp; omega
  have d2 : decide (mx - k < n) = false := by simp; omega
  obtain ⟨N, hN⟩ : ∃ N, 1024 * n = N := ⟨_, rfl⟩
  have hN2 : (n : Int) * 1024 = (N : Int) := by omega
  obtain ⟨L, hL⟩ : ∃ L, l.length = L := ⟨_, rfl⟩
  rw [hL] at c0 hf hk e3
  have hLN : L + N ≤ 1000000 := by omega
  have HN := Lib.hid hN
  have HL := Lib.hid hL
  have E3 := Lib.hid e3
  have HNE := Lib.hid hne
  obtain ⟨C0, hC0⟩ : ∃ c, c = L + r.length := ⟨_, rfl⟩
  rw [← hC0] at c0
  have HC := Lib.hid hC0
  clear hg hk hN hL e1 e2 e3 hne hC0
  go_enter Try.func14, Try.ntmps14
  go_wp2_with (first
    | (go_at_call 15; refine C.out.mono ?_; rintro e w' ⟨rfl, rfl⟩)
    | (with_reducible refine wpList_grow_bytes rfl (.tmp 24) (.tmp 26) rfl B L N C0 rfl rfl l r E2.out HL.out HC.out (by rw [HC.out]; exact E3.out) hLN ?_; intro g r' w1 hb1 hw1 hm1 hg1
       have f0 : w1.frozen? ⟨p, 0, none⟩ = false := (World.frozen?_of_block (w := w) (hb1.block p hp (by simpa using HNE.out))).trans (G.out.frozen 0)
       have f1 : (w1.cell? ⟨p, 0, none⟩).isSome = true := by rw [World.cell?_of_block (w := w) (hb1.block p hp (by simpa using HNE.out)), c0]; rfl
       have f2 : w1.cell? ⟨p, 0, none⟩ = some (.slice (some ⟨B, 0, none⟩) L C0) := by rw [World.cell?_of_block (w := w) (hb1.block p hp (by simpa using HNE.out)), c0]))
  go_ret
  obtain ⟨h1, h2, h3⟩ := pg_grown (v := .slice (some ⟨g, 0, none⟩) (L + N) (L + N + r'.length)) G.out HK.out h HN.out hb1 hw1.out (by rw [HL.out]; exact hm1) hg1.out (by rw [HL.out])
  exact ⟨g, rfl, h1, h2, h3⟩
theorem grow_no (hg : Pg 52 p B l mx w) (k : Nat) (n : Int) (hk : l.length = 1024 * k) (h : n < 0 ∨ (mx : Int) < k + n) :
    Calls Try.prog 14 #[.pointer (some ⟨p, 0, none⟩), .int .i64 n] w (Wrote 52 p B (.int .i64 (-1)) l mx w) := by
  have C := Lib.hid (pages_any hg k hk)
  have c1 := hg.cell1
  have hf := hg.fits
  have hmx := hg.most
  have G := Lib.hid hg
  have hk2 : k ≤ 512 := by omega
  clear hg hk
  by_cases h0 : n < 0
  · clear h
    go_enter Try.func14, Try.ntmps14
    go_wp2_with (go_at_call 15; refine C.out.mono ?_; rintro e w' ⟨rfl, rfl⟩)
    go_ret
    exact Wrote.same G.out
  · have d1 : decide ((mx : Int) - k < n) = true := by simp; omega
    clear h
    go_enter Try.func14, Try.ntmps14
    go_wp2_with (go_at_call 15; refine C.out.mono ?_; rintro e w' ⟨rfl, rfl⟩)
    go_ret
    exact Wrote.same G.out
end Go.Proofs.Ytljhdibnnaepdaa
