/-
  A slice of turns that comes in.
  The statement's row; MatchTells.
  Proved: for every two slices of ints and every slice of turns MatchTells returns true and its arguments read as before; no condition.
-/
import Derived.Test.YtloonhmemgidgaaJ7
import Derived.Test.YtloonhmemgidgaaJ2
import Derived.Deep.Slices
import Derived.Test.YtloonhmemgidgaaRows
import Derived.WalkKit
import Derived.ProofKit
import Derived.OpenShut
import Derived.Carry
namespace Go.Proofs.Ytloonhmemgidgaa
open Go.RowKit Go.ChangeShapes Go.WideShapes Go.Deep

theorem one_at {cs : List Value} {o : Nat} {u : Value} (h : (cs.drop o).take 1 = [u]) : cs[o]? = some u := by
  have h2 := congrArg (fun l => l[0]?) h
  simpa [List.getElem?_take, List.getElem?_drop] using h2
theorem ints_of_trod {H : Type} {enc : TypeId × Value → H} {W : World} {n : Nat} {cs : List Value} {y : DataW H × List MemPlace} (h : DataW.trod enc Try.prog W 0 (fun _ => true) true n 22 cs = some y) :
    ∃ u l, cs = [u] ∧ IntsK (fun k => k < W.heap.size) W u l := by
  rcases open_ints Try.underlying22 Try.underlying3 Try.cells_int h with ⟨hcs, _⟩ | ⟨a, len, cap, zs, hcs, _, hl, hm, hz, _, hcell, hwz⟩
  · exact ⟨_, [], hcs, IntsK.nil _ W⟩
  · simp only [if_true] at hz
    have hlen : (zs.take len).length = len := by rw [List.length_take]; omega
    refine ⟨_, zs.take len, hcs, ⟨some a, cap, by rw [hlen], by rw [hlen]; omega, (fun h => by cases h), fun h0 => ?_⟩⟩
    rw [hlen] at h0
    have c0 := hcell 0 (by omega)
    have hspot : a.spot = none := by
      have e : a.add 0 = a := by unfold Addr.add; simp
      rw [e] at c0
      unfold World.cell? at c0
      split at c0
      · split at c0
        · cases c0
        · rename_i h2; simpa using h2
      · cases c0
    obtain ⟨g, o, sp⟩ := a
    obtain rfl : sp = none := hspot
    refine ⟨g, o, rfl, World.block_lt_of_cell? W _ (by rw [Addr.add_lit] at c0; exact c0), fun j hj => ?_⟩
    rw [hlen] at hj
    have cj := hcell j (by omega)
    rw [Addr.add_lit] at cj
    rw [cj, List.getD_eq_getElem?_getD, List.getD_eq_getElem?_getD, List.getElem?_take, if_pos hj]
theorem some_at {α : Type} {l : List α} {n i : Nat} (h : l.length = n) (hi : i < n) : ∃ y, l[i]? = some y := ⟨_, List.getElem?_eq_getElem (by omega)⟩
theorem int_of_trod {H : Type} {enc : TypeId × Value → H} {W : World} {n o : Nat} {k : IntKind} {t : TypeId} {cs : List Value} {xs : List (DataW H × List MemPlace)} {i m : Nat} (ht : Try.prog.underlying t = some (.int k)) (hc : Try.prog.cellsOf t = 1) (hx : xs.length = m) (hi : i < m) (h : DataW.trod enc Try.prog W 0 (fun _ => true) true n t ((cs.drop o).take (Try.prog.cellsOf t)) = xs[i]?) : ∃ z, cs[o]? = some (.int k z) := by
  obtain ⟨y, hy⟩ := some_at hx hi
  rw [hy, hc] at h
  obtain ⟨z, hz, _⟩ := DataW.trod_int ht h
  exact ⟨z, one_at hz⟩
theorem Try.cells_u64 : Try.prog.cellsOf 41 = 1 := by kernel_rfl
theorem Try.cells_ints : Try.prog.cellsOf 22 = 1 := by kernel_rfl
theorem Try.cells_inst : Try.prog.cellsOf 43 = 5 := by kernel_rfl
theorem Try.cells_turn : Try.prog.cellsOf 55 = 9 := by kernel_rfl
/-- The cells of a turn. -/
theorem turn_of_trod {H : Type} {enc : TypeId × Value → H} {W : World} {n : Nat} {cs : List Value} {y : DataW H × List MemPlace} (h : DataW.trod enc Try.prog W 0 (fun _ => true) true n 55 cs = some y) :
    ∃ t : Trn, ∀ i, i < 9 → ∃ u, cs[i]? = some u ∧ trnCell (lt W) W t i u := by
  obtain ⟨xs, n1, _, _, hl, hx, hf⟩ := DataW.trod_struct Try.underlying55 h
  have hx5 : xs.length = 5 := hx
  obtain ⟨z0, e0⟩ := int_of_trod (o := 0) Try.underlying3 Try.cells_int hx5 (by decide) (hf 0 _ rfl)
  obtain ⟨z1, e1⟩ := int_of_trod (o := 1) Try.underlying3 Try.cells_int hx5 (by decide) (hf 1 _ rfl)
  obtain ⟨z2, e2⟩ := int_of_trod (o := 2) Try.underlying3 Try.cells_int hx5 (by decide) (hf 2 _ rfl)
  obtain ⟨z3, e3⟩ := int_of_trod (o := 3) Try.underlying41 Try.cells_u64 hx5 (by decide) (hf 3 _ rfl)
  obtain ⟨y4, hy4⟩ := some_at hx5 (show 4 < 5 by decide)
  have h4 : DataW.trod enc Try.prog W 0 (fun _ => true) true n1 43 ((cs.drop 4).take (Try.prog.cellsOf 43)) = some y4 := (hf 4 _ rfl).trans hy4
  rw [Try.cells_inst] at h4
  obtain ⟨ys, n2, _, _, _, hx', hg⟩ := DataW.trod_struct Try.underlying43 h4
  have hy5 : ys.length = 5 := hx'
  have hin : ∀ o, o < 5 → ((cs.drop 4).take 5)[o]? = cs[4 + o]? := fun o ho => by rw [List.getElem?_take, if_pos ho, List.getElem?_drop]
  obtain ⟨z4, e4⟩ := int_of_trod (o := 0) Try.underlying3 Try.cells_int hy5 (by decide) (hg 0 _ rfl)
  obtain ⟨z5, e5⟩ := int_of_trod (o := 1) Try.underlying3 Try.cells_int hy5 (by decide) (hg 1 _ rfl)
  obtain ⟨z6, e6⟩ := int_of_trod (o := 2) Try.underlying3 Try.cells_int hy5 (by decide) (hg 2 _ rfl)
  obtain ⟨z7, e7⟩ := int_of_trod (o := 3) Try.underlying41 Try.cells_u64 hy5 (by decide) (hg 3 _ rfl)
  obtain ⟨y8, hy8⟩ := some_at hy5 (show 4 < 5 by decide)
  have h8 : DataW.trod enc Try.prog W 0 (fun _ => true) true n2 22 ((((cs.drop 4).take 5).drop 4).take (Try.prog.cellsOf 22)) = some y8 := (hg 4 _ rfl).trans hy8
  rw [Try.cells_ints] at h8
  obtain ⟨u, l, hu, hL⟩ := ints_of_trod h8
  have e8 := one_at hu
  rw [hin _ (by decide)] at e4 e5 e6 e7 e8
  refine ⟨⟨z0, z1, z2, z3, ⟨z4, z5, z6, z7, l⟩⟩, fun i hi => ?_⟩
  match i, hi with
  | 0, _ => exact ⟨_, e0, rfl⟩
  | 1, _ => exact ⟨_, e1, rfl⟩
  | 2, _ => exact ⟨_, e2, rfl⟩
  | 3, _ => exact ⟨_, e3, rfl⟩
  | 4, _ => exact ⟨_, e4, rfl⟩
  | 5, _ => exact ⟨_, e5, rfl⟩
  | 6, _ => exact ⟨_, e6, rfl⟩
  | 7, _ => exact ⟨_, e7, rfl⟩
  | 8, _ => exact ⟨_, e8, hL⟩
  | _ + 9, h => exact absurd h (by omega)
/-- Things of which each can be told, as a list. -/
theorem lst_of {α : Type} (d : α) (P : Nat → α → Prop) : ∀ n, (∀ i, i < n → ∃ x, P i x) → ∃ l : List α, l.length = n ∧ ∀ i, i < n → P i (l.getD i d)
  | 0, _ => ⟨[], rfl, fun _ h => absurd h (Nat.not_lt_zero _)⟩
  | n + 1, h => by
    obtain ⟨l, h1, h2⟩ := lst_of d P n fun i hi => h i (by omega)
    obtain ⟨x, hx⟩ := h n (by omega)
    refine ⟨l ++ [x], by simp [h1], fun i hi => ?_⟩
    by_cases e : i = n
    · subst e
      rw [List.getD_eq_getElem?_getD, List.getElem?_append_right (by omega), h1, Nat.sub_self]
      exact hx
    · rw [List.getD_eq_getElem?_getD, List.getElem?_append_left (by omega), ← List.getD_eq_getElem?_getD]
      exact h2 i (by omega)
set_option maxRecDepth 100000 in
theorem open_turns {H : Type} {enc : TypeId × Value → H} {W : World} {r : Reach} {b0 : Nat} {v : Value} {d : DataW H} {ps : List MemPlace} (hval : Value.okWide Try.prog W r b0 23 v)
    (h : DataW.Trod enc Try.prog W 0 (fun _ => true) true 23 v d ps) : ∃ ts : List Trn, TrnsK (lt W) W v ts := by
  obtain ⟨a0, len, cap, rfl⟩ := okWide_slice Try.underlying23 hval
  obtain ⟨fuel, hf⟩ := h
  rcases open_slice Try.underlying23 hf with ⟨hcs, _⟩ | ⟨a, len', cap', m, n, D, Pl, hcs, _, hl, hm, hmm, _, hi⟩
  · simp [Value.cells] at hcs
    obtain ⟨rfl, rfl, rfl⟩ := hcs
    exact ⟨[], none, 0, rfl, Nat.le_refl _, Nat.zero_le _, fun _ => rfl, fun h => by simp at h⟩
  · simp [Value.cells] at hcs
    obtain ⟨rfl, rfl, rfl⟩ := hcs
    simp only [if_true] at hmm
    subst hmm
    rw [Try.cells_turn] at hi
    obtain ⟨ts, h1, h2⟩ := lst_of trn0 (fun i t => ∀ j, j < 9 → ∃ u, W.cell? (a.add (i * 9 + j)) = some u ∧ trnCell (lt W) W t j u) len fun i hlt => by
      obtain ⟨cs', hc, ht⟩ := hi i (by omega)
      obtain ⟨t, ht2⟩ := turn_of_trod ht
      obtain ⟨_, hcl, hat⟩ := World.cells?_some hc
      exact ⟨t, fun j hj => by
        obtain ⟨u, h3, h4⟩ := ht2 j hj
        exact ⟨u, by rw [← Go.Deep.add_add, hat j hj, h3], h4⟩⟩
    refine ⟨ts, some a, _, by rw [h1], by omega, hm, (fun h => by cases h), fun h0 => ?_⟩
    rw [h1] at h0
    obtain ⟨u0, c0, _⟩ := h2 0 h0 0 (by decide)
    have hspot : a.spot = none := by
      have e : a.add (0 * 9 + 0) = a := by unfold Addr.add; simp
      rw [e] at c0
      unfold World.cell? at c0
      split at c0
      · split at c0
        · cases c0
        · rename_i h2; simpa using h2
      · cases c0
    obtain ⟨g, o, sp⟩ := a
    obtain rfl : sp = none := hspot
    refine ⟨g, o, rfl, show g < W.heap.size from World.block_lt_of_cell? W _ (by rw [Addr.add_lit] at c0; exact c0), fun j i hj hi' => ?_⟩
    rw [h1] at hj
    obtain ⟨u, h3, h4⟩ := h2 j hj i hi'
    rw [Addr.add_lit] at h3
    exact ⟨u, by rw [Nat.add_assoc]; exact h3, h4⟩
end Go.Proofs.Ytloonhmemgidgaa
namespace Go.Proofs.Ytloonhmemgidgaa
open Go.RowKit

def lit10 : List Int := [2, 3, 4, 4, 5, 11, 11, 11, 1, 106]
def MrowPost (w : World) (e : Ending) (w' : World) : Prop := ∃ A c ops, e = .returned (.slice A ops.length c) ∧ ops.length ≤ 60 ∧ OwnC w w' (.slice A ops.length c) ops
theorem rem10 (z : Int) : ∃ r : Nat, r < 10 ∧ z.tmod 10 % 10 = (r : Int) ∧ (z.tmod 10 + 10) % 10 = (r : Int) ∧ IntKind.i64.wrap (z.tmod 10 + 10) = z.tmod 10 + 10 ∧ 0 ≤ z.tmod 10 + 10 := by
  have t0 := Int.lt_tmod_of_pos z (b := 10) (by omega)
  have t1 := Int.tmod_lt_of_pos z (b := 10) (by omega)
  exact ⟨(z.tmod 10 % 10).toNat, by omega, by omega, by omega, IntWalk.i64_in _ (by omega), by omega⟩
set_option maxRecDepth 100000 in
set_option maxHeartbeats 4000000 in
theorem mrow_any (w : World) (tv : Value) (tl : List Int) (htl : IntsK (fun k => k < w.heap.size) w tv tl) :
    Calls Try.prog 8 #[tv] w (MrowPost w) := by
  obtain ⟨At, ct, htv, hmt, _⟩ := htl.form
  have HTL := Lib.hid htl
  rw [htv] at HTL ⊢
  clear htl htv
  unfold maxLen at hmt
  obtain ⟨nt, hnt⟩ : ∃ n, tl.length = n := ⟨_, rfl⟩
  rw [hnt] at HTL hmt ⊢
  have HNT := Lib.hid hnt
  clear hnt
  go_enter Try.func8, Try.ntmps8
  go_wp2_with fail
  go_loopw [3, 4] (fun l i wr => ∃ (ops : List Int) (A : Option Addr) (c : Nat), l = .slice A ops.length c ∧ Hid (OwnC w wr (.slice A ops.length c) ops) ∧ i = .int .i64 (ops.length : Int) ∧ ops.length ≤ 60) (fun _ i _ => 60 - (intOf i).toNat)
  case atStart => exact ⟨[], none, 0, rfl, Lib.hid (OwnC.nil (Below.refl _ _)), rfl, by simp⟩
  case round =>
    obtain ⟨ops, A, c, rfl, HO, rfl, hk⟩ := hrel
    obtain ⟨m, hm⟩ : ∃ m, ops.length = m := ⟨_, rfl⟩
    rw [hm] at HO hk ⊢
    have HM := Lib.hid hm
    clear hm
    by_cases h0 : m < nt ∧ m < 60
    · obtain ⟨h0, h1⟩ := h0
      have hd0 : decide ((m : Int) < (nt : Int)) = true := by simp; omega
      have hd1 : decide ((m : Int) < 60) = true := by simp; omega
      obtain ⟨gt, ot, ct', he, _, _⟩ := HTL.out.some_ (by rw [HNT.out]; omega)
      simp only [Value.slice.injEq] at he
      obtain ⟨rfl, -, rfl⟩ := he
      have hz := HTL.out.at_ m h0
      have hgt := World.block_lt_of_cell? _ _ hz
      generalize tl.getD m 0 = z at hz
      obtain ⟨r, hr, e1, e2, e3, e4⟩ := rem10 z
      have hcz : (wr.alloc (.cells (lit10.map (Value.int .i64)).toArray 3)).cell? ⟨gt, ot + m, none⟩ = some (.int .i64 z) := by
        have hbb := below_new HO.out.2.2.2 (.cells (lit10.map (Value.int .i64)).toArray 3)
        exact (hbb.cell (p := ⟨gt, ot + m, none⟩) hgt).trans hz
      have hcl := lit_cell wr lit10 3 r hr
      generalize lit10.getD r 0 = x at hcl
      have HO1 := Lib.hid (HO.out.below (below_new (Below.refl wr.heap.size wr) (.cells (lit10.map (Value.int .i64)).toArray 3)))
      change (wr.alloc (.cells #[.int .i64 2, .int .i64 3, .int .i64 4, .int .i64 4, .int .i64 5, .int .i64 11, .int .i64 11, .int .i64 11, .int .i64 1, .int .i64 106] 3)).cell? _ = _ at hcz
      change (wr.alloc (.cells #[.int .i64 2, .int .i64 3, .int .i64 4, .int .i64 4, .int .i64 5, .int .i64 11, .int .i64 11, .int .i64 11, .int .i64 1, .int .i64 106] 3)).cell? _ = _ at hcl
      change Hid (OwnC w (wr.alloc (.cells #[.int .i64 2, .int .i64 3, .int .i64 4, .int .i64 4, .int .i64 5, .int .i64 11, .int .i64 11, .int .i64 11, .int .i64 1, .int .i64 106] 3)) _ _) at HO1
      have hr10 : (r : Int) < 10 := by omega
      have HR := Lib.hid hr
      have hnw := news_new (wr.alloc (.cells #[.int .i64 2, .int .i64 3, .int .i64 4, .int .i64 4, .int .i64 5, .int .i64 11, .int .i64 11, .int .i64 11, .int .i64 1, .int .i64 106] 3)) (inCells x).toArray 43 1 1
      rw [show (wr.alloc (.cells #[.int .i64 2, .int .i64 3, .int .i64 4, .int .i64 4, .int .i64 5, .int .i64 11, .int .i64 11, .int .i64 11, .int .i64 1, .int .i64 106] 3)).heap.size = wr.heap.size + 1 by simp] at hnw
      have HNW := Lib.hid hnw
      clear hz hr HO hnw
      go_wp2_with (at_builtin; (refine wpList_append_row rfl (.tmp 15) (.tmp 27) 36 43 rfl _ 5 56 Try.underlying36 Try.infoInst5 rfl (by decide) (by decide) (.slice A m c) m (flatI ops) (by rfl) (by have h := HO1.out.2.1; rw [HM.out] at h; exact h.alloc _) (.slice (some ⟨wr.heap.size + 1, 0, none⟩) 1 1) 1 (inCells x) (by rfl) (by rfl) HNW.out (by simp [inCells, Value.oneCell']) (by omega) ?_; intro v1 wa ho1 hg1 ha1; obtain ⟨B1, c1, rfl⟩ := owns_slice ho1))
      have HO2 := Lib.hid (HO1.out.push _ (more := [x]) ho1 (by simp [HM.out]) (by rw [flatI_append]; rfl) hg1 ha1)
      go_roundw
      case rel => exact ⟨ops ++ [x], B1, c1, by simp [HM.out], by have h := HO2; simp only [List.length_append, List.length_singleton, HM.out]; exact h, by simp only [List.length_append, List.length_singleton, HM.out]; go_num, by simp only [List.length_append, List.length_singleton, HM.out]; omega⟩
      case measure => simp [intOf]; omega
    · have hfin : MrowPost w (.returned (.slice A m c)) wr := ⟨A, c, ops, by rw [HM.out], by rw [HM.out]; exact hk, by rw [HM.out]; exact HO.out⟩
      have HF := Lib.hid hfin
      clear hfin HO HTL
      by_cases h1 : m < nt
      · have hd0 : decide ((m : Int) < (nt : Int)) = true := by simp; omega
        have hd1 : decide ((m : Int) < 60) = false := by simp; omega
        go_wp2
        go_ret
        exact HF.out
      · have hd0 : decide ((m : Int) < (nt : Int)) = false := by simp; omega
        go_wp2
        go_ret
        exact HF.out
theorem made_sz {m : Mdl} (h : MadeM m) : Sz 0 m := by
  obtain ⟨r, _, he⟩ := h.exps
  have hd := h.datas.len.1
  refine ⟨⟨by rw [h.types]; decide, by rw [h.types]; unfold bndT; decide⟩, by rw [h.imps]; decide, ⟨by have := h.funs.1.2; omega, fun f hf => ?_⟩, by have := h.mems.1; omega, by rw [h.globs]; decide, ?_, ⟨by omega, ?_⟩, ⟨by rw [h.cus]; simp, by rw [h.cus]; simp⟩, h.funs.1.1⟩
  · have h1 := h.funs.2 f hf
    exact ⟨by have := h1.2.2.1; omega, by have := h1.2.2.2.2.1; omega⟩
  · rw [he, List.length_append, List.length_append, fexp_len]
    have := mexp_le m.mems.length
    have := h.funs.1.2
    simp only [List.length_singleton]
    omega
  · rcases h.datas with ⟨_, h1⟩ | ⟨_, a, b, _, _, h1⟩
    · rw [h1]; simp
    · rw [h1]
      intro d hd
      simp only [List.mem_cons, List.not_mem_nil, or_false] at hd
      rcases hd with rfl | rfl
      · show actB.length ≤ 1000; decide
      · show pasB.length ≤ 1000; decide
set_option maxRecDepth 100000 in
set_option maxHeartbeats 8000000 in
theorem mtells_walk (w : World) (v1 : Value) (l1 : List Int) (h1 : IntsK (fun k => k < w.heap.size) w v1 l1) (v2 : Value) (l2 : List Int) (h2 : IntsK (fun k => k < w.heap.size) w v2 l2) (v3 : Value) (ts : List Trn) (h3 : TrnsK (lt w) w v3 ts) :
    Calls Try.prog 3 #[v1, v2, v3] w (BoolPost true w) := by
  have HM := Lib.hid (module_any w v2 l2 h2)
  have HO := Lib.hid (fun wz (hb : Below w.heap.size w wz) v m (hma : ModAt (lt wz) wz v m) (hs : Sz 0 m) => odds_any wz v m hma hs v3 ts (h3.keep (Keeps.below hb fun _ hk => hk) fun _ hk => Nat.lt_of_lt_of_le hk hb.size))
  have HR := Lib.hid (fun wz (hb : Below w.heap.size w wz) => mrow_any wz v1 l1 (h1.keep (Keeps.below hb fun _ hk => hk) fun _ hk => Nat.lt_of_lt_of_le hk hb.size))
  obtain ⟨A1', c1', hv1, _, _⟩ := h1.form
  obtain ⟨A2', c2', hv2, _, _⟩ := h2.form
  obtain ⟨A3', c3', hv3, _, _⟩ := CellsK.form h3
  rw [hv1] at HR ⊢
  rw [hv2] at HM ⊢
  rw [hv3] at HO ⊢
  clear h1 h2 h3 hv1 hv2 hv3
  generalize l1.length = nl1 at *
  generalize l2.length = nl2 at *
  generalize ts.length = nl3 at *
  go_enter Try.func3, Try.ntmps3
  go_wp2_with fail
  go_at_call 6
  refine HM.out.mono ?_
  rintro e w1 ⟨v, m, rfl, hmm, hma, hb1⟩
  have HOD := Lib.hid (HO.out w1 hb1 v m hma (made_sz hmm))
  have HB1 := Lib.hid hb1
  clear hma hmm hb1 HM HO
  obtain ⟨a0, a1, a2, a3, a4, a5, a6, a7⟩ := v
  simp only [Mv.cells] at HOD ⊢
  go_wp2_with fail
  go_at_call 5
  refine HOD.out.mono ?_
  rintro e w2 ⟨v', m', rfl, hma, hsz, hb2⟩
  obtain ⟨A0, c0, A1, c1, A2, c2, A3, c3, A4, c4, A5, c5, A6, c6, A7, c7, rfl⟩ := hma.forms
  have hfk : FunsK (fun k => k < w2.heap.size) w2 (.slice A2 m'.funs.length c2) m'.funs := hma.funs
  have hbf := hsz.funs.2
  have hnf := hsz.funs.1
  have hfp := hsz.fp
  generalize hl0 : m'.types.length = n0 at *
  generalize hl1 : m'.imps.length = n1 at *
  obtain ⟨nf, hl2⟩ : ∃ n, m'.funs.length = n := ⟨_, rfl⟩
  rw [hl2] at hfk hnf hfp ⊢
  generalize hl3 : m'.mems.length = n3 at *
  generalize hl4 : m'.globs.length = n4 at *
  generalize hl5 : m'.exps.length = n5 at *
  generalize hl6 : m'.datas.length = n6 at *
  generalize hl7 : m'.cus.length = n7 at *
  obtain ⟨g2, o2, cc2, he, _, _⟩ := CellsK.some_ hfk (by rw [hl2]; exact hfp)
  simp only [Value.slice.injEq] at he
  obtain ⟨rfl, -, rfl⟩ := he
  have HFK := Lib.hid hfk
  have HBF := Lib.hid hbf
  have HL2 := Lib.hid hl2
  have HB2 := Lib.hid (below_new (below_then HB1.out hb2) (.cells #[.slice A0 n0 c0, .slice A1 n1 c1, .slice (some ⟨g2, o2, none⟩) nf c2, .slice A3 n3 c3, .slice A4 n4 c4, .slice A5 n5 c5, .slice A6 n6 c6, .slice A7 n7 c7] 33))
  have HB23 := Lib.hid ((Below.refl w2.heap.size w2).alloc (Nat.le_refl _) (.cells #[.slice A0 n0 c0, .slice A1 n1 c1, .slice (some ⟨g2, o2, none⟩) nf c2, .slice A3 n3 c3, .slice A4 n4 c4, .slice A5 n5 c5, .slice A6 n6 c6, .slice A7 n7 c7] 33))
  clear hfk hbf hma hsz hb2 hl0 hl1 hl2 hl3 hl4 hl5 hl6 hl7 HOD HB1
  simp only [Mv.cells]
  go_wp2_with fail
  generalize w2.alloc (.cells #[.slice A0 n0 c0, .slice A1 n1 c1, .slice (some ⟨g2, o2, none⟩) nf c2, .slice A3 n3 c3, .slice A4 n4 c4, .slice A5 n5 c5, .slice A6 n6 c6, .slice A7 n7 c7] 33) = w3 at HB2 HB23 ⊢
  go_loopw [17] (fun i wr => ∃ j : Nat, j ≤ nf ∧ i = .int .i64 (j : Int) ∧ Hid (Below w3.heap.size w3 wr)) (fun i _ => nf - (intOf i).toNat)
  case atStart => exact ⟨0, Nat.zero_le _, rfl, Lib.hid (Below.refl _ _)⟩
  case round =>
    obtain ⟨j, hj, rfl, HB⟩ := hrel
    obtain ⟨w4, rfl⟩ : ∃ w4, w4 = wr := ⟨_, rfl⟩
    by_cases hlt : j < nf
    · have hd0 : decide ((j : Int) < (nf : Int)) = true := by simp; omega
      have hfk4 : FunsK (fun k => k < w4.heap.size) w4 (.slice (some ⟨g2, o2, none⟩) nf c2) m'.funs := HFK.out.keep (Keeps.below (below_then HB23.out HB.out) fun _ hk => hk) fun _ hk => Nat.lt_of_lt_of_le hk (below_then HB23.out HB.out).size
      obtain ⟨Al, nl, cl, Ac, cc, k0, k1, k2, hle, hcd⟩ := hfk4.at_ j (by rw [HL2.out]; exact hlt)
      have hbd := (HBF.out _ (fnc_mem m'.funs j fnc0 (by rw [HL2.out]; exact hlt))).2
      generalize m'.funs.getD j fnc0 = f at k0 k2 hle hcd hbd
      obtain ⟨ty, loc, code⟩ := f
      simp only at k0 k2 hle hcd hbd
      obtain ⟨nc, hnc⟩ : ∃ n, code.length = n := ⟨_, rfl⟩
      rw [hnc] at k2 hle hcd hbd
      have HCD := Lib.hid (hcd.below ((Below.refl w4.heap.size w4).alloc (Nat.le_refl _) (.cells #[.int .i64 ty, .slice Al nl cl, .slice Ac nc cc] 38)))
      have HSM := Lib.hid (same_code _ Ac nc cc (code.map Ins.op) HCD.out (by rw [List.length_map, hnc]) (by omega) hle)
      have HB5 := Lib.hid (below_new HB.out (.cells #[.int .i64 ty, .slice Al nl cl, .slice Ac nc cc] 38))
      clear hfk4 hcd hnc hbd HCD HR
      go_wp2_with fail
      go_at_call 7
      refine HSM.out.mono ?_
      rintro e w5 ⟨rfl, hb5⟩
      have HB6 := Lib.hid (below_then HB5.out hb5)
      clear hb5 HSM HB5
      go_wp2
      go_roundw
      case rel => exact ⟨j + 1, by omega, by go_num, HB6⟩
      case measure => simp [intOf]; omega
    · have hd0 : decide ((j : Int) < (nf : Int)) = false := by simp; omega
      have HB4 := Lib.hid (below_then HB2.out HB.out)
      clear HFK HBF HB HB2 HB23
      have HR4 := Lib.hid (HR.out w4 HB4.out)
      go_wp2_with fail
      go_at_call 8
      refine HR4.out.mono ?_
      rintro e w5 ⟨B5, d5, ops5, rfl, hl5, ho5⟩
      have HO5 := Lib.hid ho5
      have HB5 := Lib.hid (below_then HB4.out ho5.2.2.2)
      obtain ⟨q5, hq5⟩ : ∃ n, ops5.length = n := ⟨_, rfl⟩
      rw [hq5] at HO5 hl5 ⊢
      have HSM := Lib.hid (same_owned HO5.out (by rw [hq5]; omega))
      clear ho5 hq5 HO5 HR4
      go_wp2_with fail
      go_at_call 7
      refine HSM.out.mono ?_
      rintro e w6 ⟨rfl, hb6⟩
      have HB6 := Lib.hid (below_then HB5.out hb6)
      clear hb6 HSM HB5
      have HR6 := Lib.hid (HR.out w6 HB6.out)
      go_wp2_with fail
      go_at_call 8
      refine HR6.out.mono ?_
      rintro e w7 ⟨B7, d7, ops7, rfl, hl7, ho7⟩
      have HO7 := Lib.hid ho7
      have HB7 := Lib.hid (below_then HB6.out ho7.2.2.2)
      obtain ⟨q7, hq7⟩ : ∃ n, ops7.length = n := ⟨_, rfl⟩
      rw [hq7] at HO7 hl7 ⊢
      have HQ7 := Lib.hid hq7
      clear ho7 hq7 HR6 HR
      go_wp2_with (at_builtin; (refine wpList_append_row (by first | rfl | simp [Region.wanted]) (.tmp 31) (.tmp 33) 36 43 rfl _ 5 56 Try.underlying36 Try.infoInst5 rfl (by decide) (by decide) (.slice B7 q7 d7) q7 (flatI ops7) (by rfl) (by have h := HO7.out.2.1; rw [HQ7.out] at h; exact h.alloc _) _ 1 (inCells 11) (by rfl) (by rfl) (news_new w7 _ _ 1 1) (by simp [inCells, Value.oneCell']) (by omega) ?_; intro v8 w8 ho8 hg8 ha8; obtain ⟨B8, d8, rfl⟩ := owns_slice ho8))
      have ho9 := HO7.out.push _ (more := [11]) ho8 (by simp [HQ7.out]) (by rw [flatI_append]; rfl) hg8 ha8
      have HB9 := Lib.hid (below_then HB6.out ho9.2.2.2)
      have h9 : (ops7 ++ [11]).length = q7 + 1 := by simp [HQ7.out]
      have HSM := Lib.hid (same_owned ho9 (by rw [h9]; omega))
      clear ho8 ho9 hg8 ha8 HO7 HB7 h9
      go_at_call 7
      refine HSM.out.mono ?_
      rintro e w10 ⟨rfl, hb10⟩
      have HB10 := Lib.hid (below_then HB9.out hb10)
      clear hb10 HSM
      go_wp2_with fail
      go_at_call 9
      refine (known_any w10).mono ?_
      rintro e w11 ⟨rfl, hb11⟩
      have HB11 := Lib.hid (below_then HB10.out hb11)
      clear hb11
      go_wp2
      go_ret
      exact ⟨rfl, HB11.out⟩
end Go.Proofs.Ytloonhmemgidgaa
namespace Go.Proofs.Ytloonhmemgidgaa
open Go.ChangeShapes Go.WideShapes Go.ChangeAt Go.RowKit Go.Deep
set_option linter.unusedVariables false

theorem matchTells_own : ownKnob Try.prog.godebug = none := by kernel_rfl

set_option maxRecDepth 100000 in
theorem matchTells_lifted (os : Os) (started : os.Started) (H : Type) (enc : TypeId × Value → H) :
    ReturnsInHanded {} Try.checked os 3 .any (Rows.matchTellsSpec.pre6 enc Try.prog Try.f3 Rows.matchTellsRow.domain false) (Rows.matchTellsSpec.post enc Try.prog Try.f3 false true false false) := by
  refine returnsInHanded_of_change (C := Try.checked) matchTells_own started (by kernel_rfl) Try.func3
    (ChangeSpec.witness6 (enc := enc) (C := Try.checked) false ⟨#[], #[.slice none 0 0, .slice none 0 0, .slice none 0 0], []⟩ 8 (by kernel_rfl) (by kernel_rfl) (by kernel_rfl) (by kernel_rfl)) ?_
  intro W base args ds gs before hval0 hW hcnd _
  have hval : ∀ (j : Nat) t v, Try.f3.params[j]? = some t → args[j]? = some v → Value.okWide Try.prog W .any base t v := hval0
  have hW' := hW
  obtain ⟨p, q, hA0, hV, rfl, hfz, hnd⟩ := hW
  have hA : DataW.TrodAll enc Try.prog W 0 (fun _ => true) true Try.f3.params.toList args.toList ds p := hA0
  rw [Try.params3] at hA hval
  obtain ⟨v0, vs0, d0, ds0, p0, q0, hargs, rfl, rfl, h0, r0⟩ := trodAll_cons hA
  obtain ⟨v1, vs1, d1, ds1, p1, q1, rfl, rfl, rfl, h1, r1⟩ := trodAll_cons r0
  obtain ⟨v2, vs2, d2, ds2, p2, q2, rfl, rfl, rfl, h2, r2⟩ := trodAll_cons r1
  obtain ⟨rfl, rfl, rfl⟩ := trodAll_nil r2
  obtain rfl : args = #[v0, v1, v2] := by cases args; simp_all
  obtain ⟨rfl, rfl⟩ := trodVars_none hV
  have h0k := h0
  obtain ⟨l0, hi0, hb0⟩ := open_intsK (hval 0 22 v0 rfl rfl) h0
  have h1k := h1
  obtain ⟨l1, hi1, hb1⟩ := open_intsK (hval 1 22 v1 rfl rfl) h1
  have h2k := h2
  obtain ⟨l2, hi2⟩ := open_turns (hval 2 23 v2 rfl rfl) h2
  clear hA0 hval0
  simp only [List.append_nil] at hW'
  refine (mtells_walk W v0 l0 hi0 v1 l1 hi1 v2 l2 hi2).mono fun e W' ⟨he, hg⟩ => ?_
  subst he
  exact ⟨_, rfl, _, _, _, [], _, [], hW', trodAll_mk1 (shut_bool Try.underlying4 _), trodAll_cons_mk (Below.trod Try.laidOutAll (by kernel_rfl) (of_decide_eq_true (by kernel_rfl)) h0k hg (fun x hx => hW'.lt x (by simp [hx]))) (trodAll_cons_mk (Below.trod Try.laidOutAll (by kernel_rfl) (of_decide_eq_true (by kernel_rfl)) h1k hg (fun x hx => hW'.lt x (by simp [hx]))) (trodAll_cons_mk (Below.trod Try.laidOutAll (by kernel_rfl) (of_decide_eq_true (by kernel_rfl)) h2k hg (fun x hx => hW'.lt x (by simp [hx]))) (trodAll_mk0))), rfl, hg.frame _, fun h => by cases h⟩

theorem matchTells_over : Rows.matchTellsRow.holds Try.pinned (OpenSpec.ofChange Rows.matchTellsSpec) :=
  OpenClaim.holds_of_wide 3 Try.f3 rfl rfl rfl rfl rfl rfl rfl ⟨rfl, rfl, rfl, rfl, rfl⟩ rfl rfl rfl rfl rfl (by kernel_rfl) Try.func3 (by kernel_rfl)
    (of_decide_eq_true (by kernel_rfl)) (by unfold Func.isWrapper; first | (rw [if_pos (by decide +kernel)]; kernel_rfl) | (rw [if_neg (by decide +kernel)]; exact ⟨rfl, rfl⟩))
    (fun os started H enc _ => matchTells_lifted os started H enc)

/-- The statement. -/
theorem matchTells_proved : Rows.MatchTellsSaid :=
  matchTells_over
#print axioms matchTells_proved
end Go.Proofs.Ytloonhmemgidgaa
