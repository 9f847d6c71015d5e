/-
  Contract of call.
-/
import Derived.Test.YtinljaobdnkifaaDoorKbulk
import Derived.Test.YtinljaobdnkifaaDoorKsig
namespace Go.Proofs.YtinljaobdnkifaaDoor
open Go.RowKit

/-- What Sig of a function gives the maker. -/
theorem Gen.sig {F : Fx} {w : World} {x : St} (h : Gen F w x) (f : Nat) (hf : f < 2 + F.fs.length) :
    ∃ tt : List Int × List Int, tt.1.length ≤ 3 ∧ tt.2.length ≤ 3 ∧ Calls Tryd.prog 14 #[.agg #[F.m0, F.m1, F.m2, F.m3, F.m4, F.m5, F.m6, F.m7], .int .i64 (f : Int)] w (SigPost (rfree F w x) tt w) := by
  obtain ⟨h0, hts, h3⟩ := h.reads.types
  obtain ⟨h1, his, hi9⟩ := h.reads.imps
  obtain ⟨h2, hfs, hf9⟩ := h.reads.funs
  have key : ∀ t : Nat, t < 9 → ((f < F.is.length ∧ F.is.getD f 0 = (t : Int)) ∨ (F.is.length ≤ f ∧ f < F.is.length + F.fs.length ∧ F.fs.getD (f - F.is.length) 0 = (t : Int))) → ∃ tt : List Int × List Int, tt.1.length ≤ 3 ∧ tt.2.length ≤ 3 ∧ Calls Tryd.prog 14 #[.agg #[F.m0, F.m1, F.m2, F.m3, F.m4, F.m5, F.m6, F.m7], .int .i64 (f : Int)] w (SigPost (rfree F w x) tt w) := fun t ht hor => by
    have hm : F.ts.getD t ([], []) ∈ F.ts := by
      have : t < F.ts.length := by omega
      simp [this]
    exact ⟨_, (h3 _ hm).1, (h3 _ hm).2, rsig_yes (rfree F w x) w _ _ _ F.m3 F.m4 F.m5 F.m6 F.m7 F.ts F.is F.fs h0 h1 h2 (by omega) f t hor (by omega)⟩
  by_cases hlt : f < F.is.length
  · have hm : F.is.getD f 0 ∈ F.is := by simp [hlt]
    obtain ⟨a1, a2⟩ := hi9 _ hm
    exact key (F.is.getD f 0).toNat (by omega) (.inl ⟨hlt, by omega⟩)
  · have hlt2 : f - F.is.length < F.fs.length := by omega
    have hm : F.fs.getD (f - F.is.length) 0 ∈ F.fs := by simp [hlt2]
    obtain ⟨a1, a2⟩ := hf9 _ hm
    exact key (F.fs.getD (f - F.is.length) 0).toNat (by omega) (.inr ⟨by omega, by omega, by omega⟩)

set_option maxRecDepth 100000 in
set_option maxHeartbeats 2000000 in
theorem call_any {F : Fx} {w : World} {x : St} (h : Gen F w x) (ht : Nat) (hh : ht ≤ x.s.length) (hm : Most x 860000) :
    Calls Tryd.prog 58 #[.pointer (some ⟨F.G, 0, none⟩), .int .i64 (ht : Int)] w (GPost F w x (.tuple #[]) (fun x' => Fine x x' ht 20)) := by
  obtain ⟨A1, c1, hm1, _, _⟩ := CellsK.form h.reads.imps.1
  obtain ⟨A2, c2, hm2, _, _⟩ := CellsK.form h.reads.funs.1
  rw [h.reads.imps.2.1] at hm1
  have hf4 := h.reads.funs.2.1
  have k0 := h.c0
  have k2 := h.c2
  have k3 := h.c3
  rw [hm1] at k2
  rw [hm2] at k3
  have H := Lib.hid h
  have HH := Lib.hid hh
  have HSIG := Lib.hid (fun (wy : World) (y : St) (hy : Gen F wy y) (f : Nat) (hf : f < 2 + F.fs.length) => hy.sig f hf)
  generalize F.fs.length = nf at *
  clear h hh hm1 hm2
  have e1 : IntKind.i64.wrap (2 + (nf : Int)) = 2 + (nf : Int) := IntWalk.i64_in _ (by omega)
  obtain ⟨N, hN⟩ : ∃ N : Nat, N = 2 + nf := ⟨_, rfl⟩
  have hN2 : (2 : Int) + (nf : Int) = (N : Int) := by omega
  rw [hN2] at e1
  have hN3 : 0 < N ∧ N ≤ 100 := by omega
  have HNN : Hid (N = 2 + nf) := hN
  clear hN
  go_enter Tryd.func58, Tryd.ntmps58
  go_wp2_with fail
  go_quiet (fail)
  rename_i nq _
  obtain ⟨hg0, hs0⟩ := H.out.below (below_drewN (Below.refl _ _) nq)
  have c0 := hg0.c0
  go_wp2_with fail
  go_at_call 12
  refine (next_gen hg0 N (by omega) (by omega)).mono ?_
  rintro e w1 ⟨r1, hr1, rfl, x1, hg1, hs1, hn1⟩
  have HF1 := Lib.hid (hn1.fine (ht := ht) HH.out)
  have HS1 := Lib.hid (hs0.trans hs1)
  have H1 := Lib.hid hg1
  have hmm1 := hm.num hn1
  obtain ⟨tt, hp3, hr3, hsig⟩ := HSIG.out w1 x1 hg1 r1 (by have := HNN.out; omega)
  have HSG := Lib.hid hsig
  have q0 := hg1.c0
  have q1 := hg1.c1
  have q2 := hg1.c2
  have q3 := hg1.c3
  have q4 := hg1.c4
  have q5 := hg1.c5
  have q6 := hg1.c6
  have q7 := hg1.c7
  have q8 := hg1.c8
  clear hg0 hs0 c0 k0 k2 k3 hg1 hs1 hn1 hsig H HSIG
  go_wp2_with fail
  go_at_call 14
  refine HSG.out.mono ?_
  rintro e w2 ⟨p, r, rfl, hip, hir, hb⟩
  obtain ⟨Ap, cp, hpv, _, _⟩ := hip.form
  obtain ⟨Ar, cr, hrv, _, _⟩ := hir.form
  obtain ⟨hg2, hs2⟩ := H1.out.below hb
  have H2 := Lib.hid hg2
  have HIP := Lib.hid (hs2.ints hip.wide)
  have HIR := Lib.hid (hs2.ints hir.wide)
  have HS2 := Lib.hid (HS1.out.trans hs2)
  rw [hpv] at HIP ⊢
  rw [hrv] at HIR ⊢
  clear hip hir hpv hrv hg2 hs2 hb HSG H1 HS1 q0 q1 q2 q3 q4 q5 q6 q7 q8
  generalize hLP : tt.1.length = np at *
  generalize hLR : tt.2.length = nr at *
  have HLP := Lib.hid hLP
  have HLR := Lib.hid hLR
  clear hLP hLR
  have HG3 : Hid (Gen F (w2.alloc (.cells #[.slice Ap np cp, .slice Ar nr cr] 35)) x1 ∧ Step F w2 x1 (w2.alloc (.cells #[.slice Ap np cp, .slice Ar nr cr] 35)) x1) := H2.out.alloc _
  go_wp2_with fail
  go_at_call 53
  refine (need_any HG3.out.1 _ tt.1 (HG3.out.2.ints HIP.out) (by rw [HLP.out]; exact hp3) ht HF1.out.1 (hmm1.le (by omega))).mono ?_
  rintro e w4 ⟨rfl, x4, hg4, hs4, hu4, hz4⟩
  rw [HLP.out] at hz4
  have b0 := H2.out.new_cell _ _ hs4 0
  have b1 := H2.out.new_cell _ _ hs4 1
  simp only [List.getElem?_toArray, List.getElem?_cons_zero, List.getElem?_cons_succ] at b0 b1
  have HS4 := Lib.hid (HG3.out.2.trans hs4)
  have HF4 := Lib.hid (HF1.out.trans (hu4.fine (ht := ht) (by omega)))
  have hm4 := hmm1.up hu4
  have H4 := Lib.hid hg4
  have HNC := Lib.hid (fun (wy : World) (y : St) (hy : Step F w4 x4 wy y) => And.intro (H2.out.new_cell _ _ (hs4.trans hy) 0) (H2.out.new_cell _ _ (hs4.trans hy) 1))
  clear hg4 hs4 hu4 HF1 HG3 hmm1
  go_wp2_with fail
  go_at_call 17
  refine (put_any H4.out _ _ _ _ _ ⟨[], IntsK.nil _ _⟩ (hm4.le (by omega))).mono ?_
  rintro e w5 ⟨rfl, x5, hg5, hs5, hn5⟩
  obtain ⟨d0, d1⟩ := HNC.out _ _ hs5
  simp only [List.getElem?_toArray, List.getElem?_cons_zero, List.getElem?_cons_succ] at d0 d1
  have hz5 : ht + np ≤ x5.s.length := by rw [hn5.1]; exact hz4
  have HS5 := Lib.hid (HS4.out.trans hs5)
  have HF5 := Lib.hid (HF4.out.trans (hn5.fine (ht := ht) HF4.out.1))
  have hm5 := hm4.num hn5
  have H5 := Lib.hid hg5
  have HI5 := Lib.hid (And.intro (HS5.out.ints HIP.out) (HS5.out.ints HIR.out))
  clear hg5 hs5 hn5 H4 HS4 HF4 hm4 HNC b0 b1 HIP HIR
  go_wp2_with fail
  go_at_call 54
  refine (swap_any H5.out _ _ tt.1 tt.2 HI5.out.1 HI5.out.2 (by rw [HLP.out]; omega) (by rw [HLR.out]; exact hr3) (hm5.le (by omega))).mono ?_
  rintro e w6 ⟨rfl, x6, hg6, hs6, z1, z2, z3, z4⟩
  rw [HLP.out, HLR.out] at z1
  have HS6 := Lib.hid (HS2.out.trans (HS5.out.trans hs6))
  have H6 := Lib.hid hg6
  have HZ6 : Hid (x6.s.length + np = x5.s.length + nr ∧ x6.c.length = x5.c.length ∧ x6.nl = x5.nl ∧ x6.left = x5.left) := ⟨z1, z2, z3, z4⟩
  clear z1 z2 z3 z4 hg6 hs6
  go_wp2
  obtain ⟨f1, f2, f3, f4⟩ := HF5.out
  obtain ⟨z1, z2, z3, z4⟩ := HZ6.out
  refine bodyPost_end (results_none rfl _ _ _) rfl ⟨rfl, _, H6.out, HS6.out, by omega, by omega, z3.trans f3, z4.trans f4⟩
end Go.Proofs.YtinljaobdnkifaaDoor
