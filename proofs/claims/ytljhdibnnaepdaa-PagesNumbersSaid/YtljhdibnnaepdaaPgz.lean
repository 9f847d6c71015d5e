/-
  Contracts of the document's Copy and Grow.
-/
import Derived.Test.YtljhdibnnaepdaaPgq
import Derived.Test.YtljhdibnnaepdaaLapp
namespace Go.Proofs.Ytljhdibnnaepdaa
open Go.RowKit
variable {p B p2 B2 : Nat} {l l2 : List Nat} {mx mx2 : Nat} {w w' : World}

theorem rcopy_no (hg : Pg 46 p B l mx w) (hg2 : Pg 46 p2 B2 l2 mx2 w) (q s n : Nat) (h : ¬ (q + n ≤ l.length ∧ s + n ≤ l2.length)) :
    Calls Try.prog 28 #[.pointer (some ⟨p, 0, none⟩), .int .u64 (q : Int), .pointer (some ⟨p2, 0, none⟩), .int .u64 (s : Int), .int .u64 (n : Int)] w (Wrote 46 p B (.bool false) l mx w) := by
  have G := Lib.hid hg
  by_cases h1 : q + n ≤ l.length
  · have C := Lib.hid (in_yes hg q n h1)
    have C2 := Lib.hid (in_no hg2 s n fun h2 => h ⟨h1, h2⟩)
    clear hg hg2 h h1
    go_enter Try.func28, Try.ntmps28
    go_wp2_with (first
      | (go_at_call 24; (with_reducible refine C.out.mono ?_); rintro e w' ⟨rfl, rfl⟩)
      | (go_at_call 24; (with_reducible refine C2.out.mono ?_); rintro e w' ⟨rfl, rfl⟩))
    go_ret
    exact Wrote.same G.out
  · have C := Lib.hid (in_no hg q n h1)
    clear hg hg2 h h1
    go_enter Try.func28, Try.ntmps28
    go_wp2_with (go_at_call 24; (with_reducible refine C.out.mono ?_); rintro e w' ⟨rfl, rfl⟩)
    go_ret
    exact Wrote.same G.out
theorem but_grown {w w' : World} {g : Nat} (h : w.grownBy w' (some g)) : But [g] w w' :=
  ⟨h.os, h.tape, h.output, h.size, fun k hk hx => h.block k hk (fun e => hx (by simp [Option.some.inj e]))⟩
/-- append([]byte{}, ys...): a row of the call's own, all else as it was. -/
theorem wpList_fresh_bytes {ops : Array Oper} {rest : List Oper} {o : Oper} {a : Act} {Q : Exit → Act → World → Prop} (hgd : o.guard = none) (s x : Operand)
    (ho : o.op = .call { callee := .builtin .append, args := #[s, x], argTypes := #[27, 27] })
    (w : World) (g : Nat) (hg : g = w.heap.size) (hs : a.eval s = .slice (some ⟨g, 0, none⟩) 0 0) (A : Option Addr) (m0 c : Nat) (ys : List Nat) (hx : a.eval x = .slice A m0 c) (m : Nat) (hm0 : m0 = m) (hm : ys.length = m) (hsrc : Bytes w A ys)
    (hnm : m ≤ 1000000)
    (h : ∀ g' cap' w', But [] w w' → w.heap.size ≤ g' → Hid (∃ r, w'.heap[g']? = some (.cells (ys.map byt ++ r).toArray 5 (0, 0)) ∧ cap' = ys.length + r.length ∧ cap' ≤ maxLen) → wpList Try.prog ops Q rest (a.put o.dst (.slice (some ⟨g', 0, none⟩) m cap')) w') : wpList Try.prog ops Q (o :: rest) a (w.alloc (.cells #[] 5)) := by
  subst hg
  subst hm0
  have hb := (Below.refl w.heap.size w).alloc (Nat.le_refl _) (.cells #[] 5)
  have hown : (w.alloc (.cells #[] 5)).ownsRow w.heap.size 5 1 (.slice (some ⟨w.heap.size, 0, none⟩) 0 0) 0 (([] : List Nat).map byt) := World.ownsRow_made w #[] 0 (Nat.le_refl _) (Nat.zero_le _) rfl
  refine wpList_append_bytes hgd s x ho w.heap.size w.heap.size 0 0 [] hs hown A m0 c ys hx hm (hsrc.below hb) (by omega) (by simp) fun g' cap' w' hap => ?_
  obtain ⟨h1, h2, h3, h4⟩ := hap
  rw [Nat.zero_add] at h1 ⊢
  refine h g' cap' w' (((but_of hb [w.heap.size]).trans (but_grown h2)).mono fun k hk => .inr (by simp at hk; omega)) (by rcases h4 with h4 | h4 <;> (rw [h4]; simp)) ?_
  rcases h1.2 with ⟨e, _⟩ | ⟨g0, cap0, cur, e, _, hcur, hnc, hcm, hcs, htake⟩
  · cases e
  · simp only [Value.slice.injEq, Option.some.injEq, Addr.mk.injEq] at e
    obtain ⟨⟨rfl, _⟩, _, rfl⟩ := e
    rw [Nat.mul_one, List.nil_append] at htake
    have hcs2 : cur.toList.length = cap' := by simpa using hcs
    refine ⟨cur.toList.drop m0, ?_, by rw [List.length_drop, hcs2]; omega, hcm⟩
    rw [hcur, ← htake, List.take_append_drop]
set_option maxHeartbeats 1000000 in
theorem rcopy_yes (hg : Pg 46 p B l mx w) (hg2 : Pg 46 p2 B2 l2 mx2 w) (q s n : Nat) (h : q + n ≤ l.length) (h2 : s + n ≤ l2.length) (hn : 0 < n) :
    Calls Try.prog 28 #[.pointer (some ⟨p, 0, none⟩), .int .u64 (q : Int), .pointer (some ⟨p2, 0, none⟩), .int .u64 (s : Int), .int .u64 (n : Int)] w (Wrote 46 p B (.bool true) (splice l q ((l2.drop s).take n)) mx w) := by
  have C := Lib.hid (in_yes hg q n h)
  have C2 := Lib.hid (in_yes hg2 s n h2)
  obtain ⟨c1, hc1, c0⟩ := hg.cell0
  obtain ⟨c2, hc2, c00⟩ := hg2.cell0
  have hf := hg.fits
  have hf2 := hg2.fits
  have hlen : ((l2.drop s).take n).length = n := by simp; omega
  have hpart := hg2.part s n h2 (some ⟨B2, s, none⟩) fun _ => rfl
  have hw := (Below.refl w.heap.size w).alloc (Nat.le_refl _) (.cells #[] 5)
  have c3 : (w.alloc (.cells #[] 5)).cell? ⟨p2, 0, none⟩ = some (.slice (some ⟨B2, 0, none⟩) l2.length c2) := (hw.cell (p := ⟨p2, 0, none⟩) hg2.ltP).trans c00
  have HP := Lib.hid hg.ltP
  have G := Lib.hid hg
  obtain ⟨L, hL⟩ : ∃ L, l.length = L := ⟨_, rfl⟩
  obtain ⟨L2, hL2⟩ : ∃ L, l2.length = L := ⟨_, rfl⟩
  rw [hL] at h c0 hc1 hf
  rw [hL2] at h2 c00 c3 hc2 hf2
  have hq : ¬ q = c1 := by omega
  have hs : ¬ s = c2 := by omega
  have hmin : n.min (L - q) = n := Nat.min_eq_left (by omega)
  have HSUB := Lib.hid (show s + n - s = n by omega)
  have HL := Lib.hid hL
  have HM := Lib.hid hmin
  have HPART := Lib.hid hpart
  have C0 := Lib.hid c0
  clear hg hg2 hL hL2 hw hmin hpart c0 c00
  generalize (l2.drop s).take n = ys at *
  have HY := Lib.hid hlen
  clear hlen
  go_enter Try.func28, Try.ntmps28
  go_upto_region 3 with (first
      | (go_at_call 24; (with_reducible refine C.out.mono ?_); rintro e w' ⟨rfl, rfl⟩)
      | (go_at_call 24; (with_reducible refine C2.out.mono ?_); rintro e w' ⟨rfl, rfl⟩))
  go_upto_region 4 with (with_reducible refine wpList_fresh_bytes rfl (.tmp 24) (.tmp 33) rfl w _ rfl rfl (some ⟨B2, s, none⟩) (s + n - s) (c2 - s) ys rfl n HSUB.out HY.out HPART.out (by omega) ?_; intro g' cap' w2 hb2 hg2 hr2)
  have hb2B : But [B] w w2 := hb2.mono fun k hk => by simp at hk
  have G2 := Lib.hid (G.out.next hb2 (by simp) (by simp))
  have d0 : w2.cell? ⟨p, 0, none⟩ = some (.slice (some ⟨B, 0, none⟩) L c1) := (hb2.cell (p := ⟨p, 0, none⟩) HP.out (by simp)).trans C0.out
  obtain ⟨r2, e1, e2, e3⟩ := hr2.out
  obtain ⟨r, f1, f2, f3⟩ := G2.out.ex
  have HSRC : Hid (Bytes w2 (some ⟨g', 0, none⟩) ys) := Lib.hid ⟨HPART.out.1, fun _ => ⟨g', 0, rfl, (Array.getElem?_eq_some_iff.1 e1).1, fun j hj => by
    rw [cell_of_row w2 g' (0 + j) _ _ _ e1, Nat.zero_add]
    simp [hj, byt, List.getElem?_append]⟩⟩
  have F2 := Lib.hid f2
  have HB2 := Lib.hid hb2B
  have HQ := Lib.hid (show q + n.min (L - q) ≤ (l.map byt ++ r).length by rw [HM.out, List.length_append, List.length_map, HL.out]; omega)
  clear e1 e2 e3 f1 f2 f3 hb2B hb2 hr2
  go_wp2_with (with_reducible refine wpList_copy_bytes rfl (.tmp 40) (.tmp 41) rfl B q (L - q) _ n cap' _ (some ⟨g', 0, none⟩) rfl rfl (l.map byt ++ r) ys F2.out HY.out HSRC.out (fun _ => rfl) HQ.out ?_; intro w3 hb3 hw3)
  go_ret
  refine ⟨rfl, HB2.out.trans hb3, G2.out.spliced q ys (by rw [HY.out, HL.out]; exact h) HSRC.out.1 hb3 fun cur hcur => ?_⟩
  have e : cur = l.map byt ++ r := by
    have := hcur.symm.trans F2.out
    simpa using this
  rw [e, hw3.out, List.take_of_length_le (by rw [HY.out]; omega)]
set_option maxHeartbeats 1000000 in
theorem rcopy_zero (hg : Pg 46 p B l mx w) (hg2 : Pg 46 p2 B2 l2 mx2 w) (q s : Nat) (h : q ≤ l.length) (h2 : s ≤ l2.length) :
    Calls Try.prog 28 #[.pointer (some ⟨p, 0, none⟩), .int .u64 (q : Int), .pointer (some ⟨p2, 0, none⟩), .int .u64 (s : Int), .int .u64 0] w (Wrote 46 p B (.bool true) l mx w) := by
  have C' : Calls Try.prog 24 #[.pointer (some ⟨p, 0, none⟩), .int .u64 (q : Int), .int .u64 0] w (InPost true w) := in_yes hg q 0 h
  have C2' : Calls Try.prog 24 #[.pointer (some ⟨p2, 0, none⟩), .int .u64 (s : Int), .int .u64 0] w (InPost true w) := in_yes hg2 s 0 h2
  have C := Lib.hid C'
  have C2 := Lib.hid C2'
  clear C' C2'
  obtain ⟨c1, hc1, c0⟩ := hg.cell0
  obtain ⟨c2, hc2, c00⟩ := hg2.cell0
  have hf := hg.fits
  have hf2 := hg2.fits
  have hsz : (Try.prog.info? 5).map (·.size) = some 1 := by kernel_rfl
  have hw := (Below.refl w.heap.size w).alloc (Nat.le_refl _) (.cells #[] 5)
  have c3 : (w.alloc (.cells #[] 5)).cell? ⟨p2, 0, none⟩ = some (.slice (some ⟨B2, 0, none⟩) l2.length c2) := (hw.cell (p := ⟨p2, 0, none⟩) hg2.ltP).trans c00
  have c4 : (w.alloc (.cells #[] 5)).cell? ⟨p, 0, none⟩ = some (.slice (some ⟨B, 0, none⟩) l.length c1) := (hw.cell (p := ⟨p, 0, none⟩) hg.ltP).trans c0
  have HW := Lib.hid hw
  have G := Lib.hid hg
  obtain ⟨L, hL⟩ : ∃ L, l.length = L := ⟨_, rfl⟩
  obtain ⟨L2, hL2⟩ : ∃ L, l2.length = L := ⟨_, rfl⟩
  rw [hL] at h c0 c4 hc1 hf
  rw [hL2] at h2 c00 c3 hc2 hf2
  clear hg hg2 hL hL2 hw c0 c00
  have h1 : (c1 = q ∧ L = q) ∨ ¬ q = c1 := by omega
  have h3 : (c2 = s ∧ L2 = s) ∨ ¬ s = c2 := by omega
  rcases h1 with ⟨rfl, rfl⟩ | h1 <;> rcases h3 with ⟨rfl, rfl⟩ | h3
  all_goals
    go_enter Try.func28, Try.ntmps28
    go_wp2_with (first
        | (go_at_call 24; (with_reducible refine C.out.mono ?_); rintro e w' ⟨rfl, rfl⟩)
        | (go_at_call 24; (with_reducible refine C2.out.mono ?_); rintro e w' ⟨rfl, rfl⟩)
        | (with_reducible refine wpList_copy_nothing rfl (.tmp 40) (.tmp 41) 27 27 rfl 5 Try.underlying27 hsz _ _ _ _ 0 0 rfl rfl (Nat.zero_min _) ?_))
    go_ret
    exact ⟨rfl, but_of HW.out _, G.out.next (but_of HW.out []) (by simp) (by simp)⟩

/-! ### Grow -/
theorem rgrow_no (hg : Pg 46 p B l mx w) (k : Nat) (n : Int) (hk : l.length = 1024 * k) (h : n < 0 ∨ (mx : Int) < k + n) :
    Calls Try.prog 25 #[.pointer (some ⟨p, 0, none⟩), .int .i64 n] w (Wrote 46 p B (.int .i64 (-1)) l mx w) := by
  have C := Lib.hid (rpages_any hg k hk)
  have c1 := hg.cell1
  have hf := hg.fits
  have hmx := hg.most
  have G := Lib.hid hg
  have hk2 : k ≤ 512 := by omega
  clear hg hk
  by_cases h0 : n < 0
  · clear h
    go_enter Try.func25, Try.ntmps25
    go_wp2_with (go_at_call 30; refine C.out.mono ?_; rintro e w' ⟨rfl, rfl⟩)
    go_ret
    exact Wrote.same G.out
  · have d1 : decide ((mx : Int) - k < n) = true := by simp; omega
    clear h
    go_enter Try.func25, Try.ntmps25
    go_wp2_with (go_at_call 30; refine C.out.mono ?_; rintro e w' ⟨rfl, rfl⟩)
    go_ret
    exact Wrote.same G.out
theorem pg_moved {T : TypeId} {g : Nat} {l : List Nat} {r : List Value} {k n N : Nat} {w1 : World} {v : Value} (hg : Pg T p B l mx w) (hk : l.length = 1024 * k) (hkn : k + n ≤ mx) (hN : 1024 * n = N) (hb : But [] w w1) (hcur : w1.heap[g]? = some (.cells ((l ++ List.replicate N 0).map byt ++ r).toArray 5 (0, 0))) (hm : l.length + N + r.length ≤ maxLen) (hg2 : w.heap.size ≤ g)
    (hv : v = .slice (some ⟨g, 0, none⟩) (l.length + N) (l.length + N + r.length)) :
    But [p, B] w (w1.setCell ⟨p, 0, none⟩ v) ∧ Pg T p g (l ++ List.replicate (1024 * n) 0) mx (w1.setCell ⟨p, 0, none⟩ v) := by
  obtain ⟨r0, h1, h2, h3⟩ := hg.ex
  have hp := hg.ltP
  have hpg : p ≠ g := by omega
  refine ⟨(hb.mono (fun k hk => by simp at hk)).trans (But.setCell w1 (by simp) v), ⟨⟨r, ?_, ?_, by rw [hN]; simpa using hm⟩, hpg, fun x hx => ?_, hg.most, ⟨k + n, by rw [List.length_append, List.length_replicate]; omega, hkn⟩⟩⟩
  · have e := (hb.block p hp (by simp)).trans h1
    simp [World.setCell, Array.getElem?_modify, e, hv, hN]
  · rw [Below.heap_setCell _ _ _ _ (by simpa using hpg.symm), hN]; exact hcur
  · rcases List.mem_append.1 hx with hx | hx
    · exact hg.byte x hx
    · have := List.eq_of_mem_replicate hx; omega
set_option maxHeartbeats 1000000 in
theorem rgrow_yes (hg : Pg 46 p B l mx w) (k n : Nat) (hk : l.length = 1024 * k) (h : k + n ≤ mx) :
    Calls Try.prog 25 #[.pointer (some ⟨p, 0, none⟩), .int .i64 (n : Int)] w (GrewYes 46 p B k n l mx w) := by
  have C := Lib.hid (rpages_any hg k hk)
  obtain ⟨cc, hcc, c0⟩ := hg.cell0
  have c1 := hg.cell1
  have hw := (Below.refl w.heap.size w).alloc (Nat.le_refl _) (.cells #[] 5)
  have c3 : (w.alloc (.cells #[] 5)).cell? ⟨p, 0, none⟩ = some (.slice (some ⟨B, 0, none⟩) l.length cc) := (hw.cell (p := ⟨p, 0, none⟩) hg.ltP).trans c0
  have hf := hg.fits
  have hmx := hg.most
  have hp := hg.ltP
  have G := Lib.hid hg
  have HK := Lib.hid hk
  have HB := Lib.hid hg.bytes
  have d0 : decide ((n : Int) < 0) = false := by simp
  have d1 : decide ((mx : Int) - k < (n : Int)) = false := by simp; omega
  have d2 : decide (mx - k < n) = false := by simp; omega
  obtain ⟨N, hN⟩ : ∃ N, 1024 * n = N := ⟨_, rfl⟩
  have hN2 : (n : Int) * 1024 = (N : Int) := by omega
  obtain ⟨L, hL⟩ : ∃ L, l.length = L := ⟨_, rfl⟩
  rw [hL] at c0 c3 hf hk hcc
  have hLN : L + N ≤ 1000000 := by omega
  have HN := Lib.hid hN
  have HL := Lib.hid hL
  have C0 := Lib.hid c0
  clear hg hk hN hL hw c0
  go_enter Try.func25, Try.ntmps25
  go_wp2_with (first
    | (go_at_call 30; refine C.out.mono ?_; rintro e w' ⟨rfl, rfl⟩)
    | ((with_reducible refine wpList_fresh_bytes rfl (.tmp 21) (.tmp 25) rfl w _ rfl rfl (some ⟨B, 0, none⟩) L cc l rfl L rfl HL.out HB.out (by omega) ?_); intro g' cap' w2 hb2 hg2 hr2
       obtain ⟨r2, e1, e2, e3⟩ := hr2.out
       have E1 := Lib.hid e1
       have E2 := Lib.hid (HL.out ▸ e2)
       have HB2 := Lib.hid hb2
       have E3 := Lib.hid e3
       clear e1 e2 e3 hr2 hb2)
    | ((with_reducible refine wpList_grow_bytes rfl (.tmp 26) (.tmp 28) rfl g' L N cap' rfl rfl l r2 E1.out HL.out E2.out E3.out hLN ?_); intro g r' w1 hb1 hw1 hm1 hg1
       have hpg : p ∉ [g'] := by simp; omega
       have HB3 := Lib.hid ((HB2.out.trans (But.refl [] w2)).mono (fun k hk => .inl hk) |>.trans (But.refl [] w2))
       have hp2 : p < w2.heap.size := Nat.lt_of_lt_of_le hp HB2.out.size
       have f0 : w1.frozen? ⟨p, 0, none⟩ = false := (World.frozen?_of_block (w := w2) (hb1.block p hp2 hpg)).trans ((World.frozen?_of_block (w := w) (HB2.out.block p hp (by simp))).trans (G.out.frozen 0))
       have f2 : w1.cell? ⟨p, 0, none⟩ = some (.slice (some ⟨B, 0, none⟩) L cc) := (World.cell?_of_block (w := w2) (hb1.block p hp2 hpg)).trans ((World.cell?_of_block (w := w) (HB2.out.block p hp (by simp))).trans C0.out)))
  go_ret
  have hgg : w.heap.size ≤ g := by
    rcases hg1.out with h1 | h1
    · omega
    · have := HB2.out.size; omega
  have hbb : But [] w w1 := ((HB2.out.mono (Y := [g']) fun k hk => by simp at hk).trans hb1).mono fun k hk => .inr (by simp at hk; omega)
  obtain ⟨h1, h3⟩ := pg_moved (v := .slice (some ⟨g, 0, none⟩) (L + N) (L + N + r'.length)) G.out HK.out h HN.out hbb hw1.out (by rw [HL.out]; exact hm1) hgg (by rw [HL.out])
  exact ⟨g, rfl, h1, .inr hgg, h3⟩
end Go.Proofs.Ytljhdibnnaepdaa
