/-
  Contracts of Next upon the maker's tape, of put.
-/
import Derived.Test.YtinljaobdnkifaaDoorKnext
import Derived.Deep.RegionLaw
import Derived.BigRegion
import Derived.Deep.AppendLies
namespace Go.Proofs.YtinljaobdnkifaaDoor
open Go.RowKit

/-- Next upon the maker's tape. -/
theorem next_gen {F : Fx} {w : World} {x : St} (h : Gen F w x) (n : Nat) (h0 : 0 < n) (hn : n ≤ 1073741824) :
    Calls Tryd.prog 12 #[.pointer (some ⟨F.T, 0, none⟩), .int .i64 (n : Int)] w fun e w' => ∃ r : Nat, r < n ∧ e = .returned (.int .i64 (r : Int)) ∧ ∃ x', Gen F w' x' ∧ Step F w x w' x' ∧ Num x x' 0 0 :=
  (next_any (rfree F w x) F.T F.tv F.tl x.at_ n w h.ht h.reads.tape (fun hk => hk.1.2 (.inr (.inl rfl))) h.le h0 hn).mono fun _ _ ⟨r, _, he, hr, hk, ht⟩ => ⟨r, hr, he, _, (h.next ht hk).1, (h.next ht hk).2, rfl, rfl, rfl, rfl⟩

theorem Tryd.infoInst : (Tryd.prog.info? 71).map (fun i => (i.zero, i.size, i.bytes)) = some (some (.agg #[.int .i64 0, .int .i64 0, .int .i64 0, .int .u64 0, .slice none 0 0]), 5, 56) := by kernel_rfl

set_option maxHeartbeats 1000000 in
set_option maxRecDepth 100000 in
theorem put_none {F : Fx} {w : World} {x : St} (h : Gen F w x) (hF : F.o = none) (op a b n : Int) (l : Value) (hl : ∃ q, IntsK (rfree F w x) w l q) (hm : Most x 900000) :
    Calls Tryd.prog 17 #[.pointer (some ⟨F.G, 0, none⟩), .agg #[.int .i64 op, .int .i64 a, .int .i64 b, .int .u64 n, l]] w (GPost F w x (.tuple #[]) (fun x' => Num x x' 0 1 ∧ x'.c = x.c ++ [⟨op, a, b, n, l⟩])) := by
  obtain ⟨q, A, c, rfl, hq⟩ := hl
  have hc0 := h.co
  have hmc := hm.c
  obtain ⟨hg1, hs1⟩ := h.below ((Below.refl w.heap.size w).alloc (Nat.le_refl _) (.cells #[.int .i64 op, .int .i64 a, .int .i64 b, .int .u64 n, .slice A q.length c] 71))
  have cb : ∀ j : Nat, (w.alloc (.cells #[.int .i64 op, .int .i64 a, .int .i64 b, .int .u64 n, .slice A q.length c] 71)).cell? ⟨w.heap.size, j, none⟩ = #[Value.int .i64 op, .int .i64 a, .int .i64 b, .int .u64 n, .slice A q.length c][j]? := fun j => by rw [World.cell?_alloc_new]
  have c14 := hg1.c14
  have b0 := cb 0
  have b1 := cb 1
  have b2 := cb 2
  have b3 := cb 3
  have b4 := cb 4
  simp only [List.getElem?_toArray, List.getElem?_cons_zero, List.getElem?_cons_succ] at b0 b1 b2 b3 b4
  have HQ : Hid (∃ q', IntsK (rfree F (w.alloc (.cells #[.int .i64 op, .int .i64 a, .int .i64 b, .int .u64 n, .slice A q.length c] 71)) x) (w.alloc (.cells #[.int .i64 op, .int .i64 a, .int .i64 b, .int .u64 n, .slice A q.length c] 71)) (.slice A q.length c) q') := ⟨q, hs1.rints ⟨A, c, rfl, hq⟩⟩
  clear cb hq
  go_enter Tryd.func17, Tryd.ntmps17
  go_wp2_with fail
  generalize w.alloc (.cells #[.int .i64 op, .int .i64 a, .int .i64 b, .int .u64 n, .slice A q.length c] 71) = W at *
  generalize hB : w.heap.size = B at *
  generalize hql : q.length = ql at *
  have HQL := Lib.hid hql
  clear hql
  have HONE : Hid (∀ u ∈ [Value.int .i64 op, .int .i64 a, .int .i64 b, .int .u64 n, .slice A ql c], u.oneCell' = true) := by
    intro u hu; simp only [List.mem_cons, List.not_mem_nil, or_false] at hu; rcases hu with rfl | rfl | rfl | rfl | rfl <;> rfl
  have HLG : Hid (F.G < W.heap.size) := (Array.getElem?_eq_some_iff.1 hg1.hg).1
  have HNG : Hid (some F.G ≠ x.cv.ownBlock) := fun e => (hg1.cp _ e.symm).1 rfl
  have HLB : Hid (B < W.heap.size) := World.block_lt_of_cell? W _ b0
  have HNB : Hid (some B ≠ x.cv.ownBlock) := fun e => by have := (hc0.lt _ e.symm).2; omega
  have HE : Hid (∀ w2 : World, (W.alloc (.cells #[.int .i64 op, .int .i64 a, .int .i64 b, .int .u64 n, .slice A ql c] 71)).grownBy w2 x.cv.ownBlock → ∀ (p : Addr), p.block < W.heap.size → some p.block ≠ x.cv.ownBlock → ∀ {u : Value}, W.cell? p = some u → w2.cell? p = some u) :=
    fun w2 hgr p hp hne u hu => (hgr.cell (a := p) (by rw [World.cell?_alloc_lt _ _ _ hp]; exact hu) hne)
  have HFZ : Hid (∀ w2 : World, (W.alloc (.cells #[.int .i64 op, .int .i64 a, .int .i64 b, .int .u64 n, .slice A ql c] 71)).grownBy w2 x.cv.ownBlock → w2.frozen? ⟨F.G, 14, none⟩ = false) :=
    fun w2 hgr => by rw [World.frozen?_of_block (w := W) ((hgr.block F.G (by simp; have := HLG.out; omega) HNG.out).trans (Below.heap_alloc W _ _ HLG.out))]; exact hg1.frozen 14
  have c14b : (W.alloc (.cells #[.int .i64 op, .int .i64 a, .int .i64 b, .int .u64 n, .slice A ql c] 71)).cell? ⟨F.G, 14, none⟩ = some x.cv := by rw [World.cell?_alloc_lt _ _ _ (by exact HLG)]; exact c14
  have HG := Lib.hid hg1
  have HS := Lib.hid hs1
  clear hg1 hs1
  go_region_law (refine step_append_row rfl (.tmp 8) (.tmp 10) 42 71 rfl _ 5 56 Tryd.underlying42 Tryd.infoInst rfl (by decide) (by decide) x.cv x.c.length (flat x.c) (by rfl) (owns_drew (HG.out.co.alloc _)) _ 1 [.int .i64 op, .int .i64 a, .int .i64 b, .int .u64 n, .slice A ql c] (by rfl) (by rfl) (news_drew (news_new W _ _ 1 1)) HONE.out (by omega) ?_; intro v' w' hown hgr0 hat; have hgr := grown_drew hgr0; clear hgr0; have f14 := HFZ.out w' hgr; have e14 := HE.out _ hgr ⟨F.G, 14, none⟩ (by show F.G < _; exact HLG.out) HNG.out c14; obtain ⟨A', c', rfl⟩ := owns_slice hown)
  all_goals
    have hgs := HG.out.pushC _ hgr ⟨op, a, b, n, .slice A ql c⟩ _ hown hat HQ.out hF
    have HGS := Lib.hid hgs
    clear hgs
    go_wp2
    refine bodyPost_end (results_none rfl _ _ _) rfl ⟨rfl, _, HGS.out.1, HS.out.trans HGS.out.2, ⟨rfl, ?_, rfl, rfl⟩, by rw [HQL.out]⟩
    show (x.c ++ [_]).length = _
    rw [List.length_append]; rfl
/-- What is told of what is open has no part in a step. -/
theorem Step.reo {F : Fx} {a b : Option (List Nat)} {w w' : World} {x x' : St} (h : Step { F with o := a } w x w' x') : Step { F with o := b } w x w' x' := ⟨h.keeps, h.mono⟩
/-- put of whatever opens or ends blocks as it may. -/
theorem put_to {F : Fx} {w : World} {x : St} (h : Gen F w x) (op a b n : Int) (l : Value) (hl : ∃ q, IntsK (rfree F w x) w l q) (hm : Most x 900000) (o' : Option (List Nat)) (ho : ∀ q, o' = some q → ∃ p, F.o = some p ∧ nestStep op p = some q) :
    Calls Tryd.prog 17 #[.pointer (some ⟨F.G, 0, none⟩), .agg #[.int .i64 op, .int .i64 a, .int .i64 b, .int .u64 n, l]] w (GPost { F with o := o' } w x (.tuple #[]) (fun x' => Num x x' 0 1 ∧ x'.c = x.c ++ [⟨op, a, b, n, l⟩])) := by
  refine (put_none (F := { F with o := none }) (h.reo none fun q hq => by cases hq) rfl op a b n l hl hm).mono ?_
  rintro e w' ⟨rfl, x', hg, hs, hn, hc⟩
  refine ⟨rfl, x', hg.reo o' fun q hq => ?_, hs.reo, hn, hc⟩
  obtain ⟨p, hp, hpq⟩ := ho q hq
  rw [hc, List.map_append, List.map_singleton, nestOf_snoc, h.reads.nest p hp]
  exact hpq
theorem put_any {F : Fx} {w : World} {x : St} (h : Gen F w x) (op a b n : Int) (l : Value) (hl : ∃ q, IntsK (rfree F w x) w l q) (hm : Most x 900000) (hp : plain op := by exact plain_of (by decide)) :
    Calls Tryd.prog 17 #[.pointer (some ⟨F.G, 0, none⟩), .agg #[.int .i64 op, .int .i64 a, .int .i64 b, .int .u64 n, l]] w (GPost F w x (.tuple #[]) (fun x' => Num x x' 0 1)) :=
  (put_to h op a b n l hl hm F.o fun q hq => ⟨q, hq, nestStep_plain hp q⟩).mono fun _ _ ⟨he, x', hg, hs, hn, _⟩ => ⟨he, x', hg, hs, hn⟩
end Go.Proofs.YtinljaobdnkifaaDoor
