/-
  Contract of one, given body's at as many to make. Written by wip/tools/gen_kone.py.
-/
import Derived.Test.YtdfonjnplmfhfaaKblock
import Derived.Test.YtdfonjnplmfhfaaKops
namespace Go.Proofs.Ytdfonjnplmfhfaa
open Go.RowKit

/-- New numbers are the call's own. -/
theorem Gen.newInts {F : Fx} {w w' : World} {x : St} (h : Gen F w x) {v : Value} {l : List Int} (hv : IntsK (fun k => w.heap.size ≤ k ∧ k < w'.heap.size) w' v l) : IntsK (free F w' x) w' v l := hv.keep (Keeps.refl _ _) fun _ hk => ⟨hk.2, h.new_free hk.1⟩
theorem params_le (op : Int) : (paramsB op).length ≤ 2 ∧ (resultsB op).length ≤ 1 := by
  unfold paramsB resultsB
  by_cases h : numB op = true
  · rw [if_pos h, if_pos h, List.length_replicate]
    have := sig_count op h
    exact ⟨by omega, by simp⟩
  · rw [if_neg h, if_neg h]
    exact ⟨by simp, by simp⟩
theorem lit3 (r : Nat) (hr : r < 3) : ∃ v : Int, #[Value.int .i64 127, .int .i64 126, .int .i64 124][r]? = some (.int .i64 v) := by
  match r with
  | 0 | 1 | 2 => exact ⟨_, rfl⟩

set_option maxRecDepth 100000 in
set_option maxHeartbeats 8000000 in
theorem one_of_body {F : Fx} {L : Int} (hb : ∀ q', BodyOk { F with o := some q' } L) (hE : ∀ k, ¬ F.E k) : OneOk F L := by
  intro w x ht h hh hn hn8 hl0 hlL hw0 hqn
  obtain ⟨q, hq, hqn⟩ := hqn
  have HBLK := Lib.hid (fun (wz : World) (z : St) (hg : Gen F wz z) (h1 : ht ≤ z.s.length) (h2 : z.nl = x.nl) (h3 : 0 ≤ z.left) (h4 : z.left ≤ x.left) (h5 : wgt z ≤ 799900) => block_any hb hg hq ht h1 (by omega) (by omega) (by omega) h3 (by omega) h5 hE)
  have HE := Lib.hid hE
  have hw := hw0
  have H0 := Lib.hid h
  have HS0 := Lib.hid (Step.refl F w x)
  have HR0 := Lib.hid (show Grew x x ht 0 from ⟨hh, Nat.le_refl _, rfl, hl0, Int.le_refl _⟩)
  have c0 := h.c0
  have HNN := Lib.hid (And.intro hn hn8)
  clear hb h hq hqn hh hl0 hlL hE hw0 hn hn8
  go_enter Try.func17, Try.ntmps17
  go_wp2_with fail
  go_at_call 8
  refine (next_gen H0.out 16 (by omega) (by omega)).mono ?_
  rintro e w1 ⟨r1, hr1, rfl, x1, hg1, hs1, hn1⟩
  have HS1 := Lib.hid (HS0.out.trans (hs1))
  have H1 := Lib.hid hg1
  have HR1 := Lib.hid (HR0.out.fine (hn1.fine (ht := ht) HR0.out.1))
  have c0 := H1.out.c0
  clear hg1 hs1 H0 HS0 HR0
  clear hn1
  rcases (show r1 < 4 ∨ r1 = 4 ∨ r1 = 5 ∨ r1 = 6 ∨ (r1 = 7 ∨ r1 = 8) ∨ r1 = 9 ∨ (r1 = 10 ∨ r1 = 11) ∨ r1 = 12 ∨ r1 = 13 ∨ r1 = 14 ∨ r1 = 15 by omega) with h4 | rfl | rfl | rfl | h7 | rfl | h10 | rfl | rfl | rfl | rfl
  · rcases (show r1 = 0 ∨ r1 = 1 ∨ r1 = 2 ∨ r1 = 3 by omega) with rfl | rfl | rfl | rfl
    all_goals
      go_wp2_with fail
      go_at_call 22
      refine (ops_any _).mono ?_
      rintro e w2 ⟨v, l, rfl, hl, hl0, hl2, hl69, hb2⟩
      obtain ⟨gl, ol, cl, hv, _, _⟩ := hl.some_ hl0
      obtain ⟨hg2, hs2⟩ := H1.out.below hb2
      have HL := Lib.hid (H1.out.newInts hl)
      have HL69 := Lib.hid hl69
      rw [hv] at HL ⊢
      clear hv hl hb2 hl69
      generalize hll : l.length = ll at *
      have HLL := Lib.hid hll
      clear hll
      have HS2 := Lib.hid (HS1.out.trans hs2)
      have H2 := Lib.hid hg2
      have HR2 := HR1
      have c0 := H2.out.c0
      clear hg2 hs2 H1 HS1 HR1
      go_wp2_with fail
      go_at_call 8
      refine (next_gen H2.out ll (by omega) (by omega)).mono ?_
      rintro e w3 ⟨r3, hr3, rfl, x3, hg3, hs3, hn3⟩
      have hcell := (hs3.ints HL.out).at_ r3 hr3
      obtain ⟨op, hop⟩ : ∃ op, l.getD r3 0 = op := ⟨_, rfl⟩
      have hop69 : 69 ≤ op := by rw [← hop]; exact HL69.out _ (getD_mem l r3 0 (by rw [HLL.out]; exact hr3))
      rw [hop] at hcell
      have HPL := Lib.hid (plain_of (show op ≠ 2 ∧ op ≠ 3 ∧ op ≠ 4 ∧ op ≠ 5 ∧ op ≠ 11 by omega))
      clear hop hop69 HL69 HLL
      have HS3 := Lib.hid (HS2.out.trans (hs3))
      have H3 := Lib.hid hg3
      have HR3 := Lib.hid (HR2.out.fine (hn3.fine (ht := ht) HR2.out.1))
      have c0 := H3.out.c0
      clear hg3 hs3 H2 HS2 HR2
      clear hn3 HL
      have HNM := Lib.hid (fun wz => rnum_any op wz)
      have HPL2 := Lib.hid (params_le op)
      unfold RNumPost at HNM
      generalize numB op = nb at HNM
      go_wp2_with fail
      go_at_call 23
      refine (HNM.out _).mono ?_
      rintro e w4 ⟨p, q2, rfl, hp, hq2, hb4⟩
      obtain ⟨hg4, hs4⟩ := H3.out.below hb4
      have hip := H3.out.newInts hp.ints
      have hiq := H3.out.newInts hq2.ints
      obtain ⟨Ap, cp, hpv, _, _⟩ := hip.form
      obtain ⟨Aq, cq, hqv, _, _⟩ := hiq.form
      rw [hpv] at hip ⊢
      rw [hqv] at hiq ⊢
      clear hpv hqv hp hq2 hb4 hcell HNM
      obtain ⟨hp2, hq1⟩ := HPL2.out
      generalize paramsB op = P at *
      generalize resultsB op = Q at *
      generalize hnp : P.length = np at *
      generalize hnq : Q.length = nq at *
      have HNP := Lib.hid hnp
      have HNQ := Lib.hid hnq
      have HIP := Lib.hid hip
      have HIQ := Lib.hid hiq
      clear hnp hnq hip hiq HPL2
      have HS4 := Lib.hid (HS3.out.trans hs4)
      have H4 := Lib.hid hg4
      have HR4 := HR3
      have c0 := H4.out.c0
      clear hg4 hs4 H3 HS3 HR3
      go_wp2_with fail
      go_at_call 24
      refine (need_any H4.out _ P HIP.out (by rw [HNP.out]; omega) ht HR4.out.1 ((HR4.out.most hw).le (by omega))).mono ?_
      rintro e w5 ⟨rfl, x5, hg5, hs5, hu5, hz5⟩
      rw [HNP.out] at hz5
      have HIP5 := Lib.hid (hs5.ints HIP.out)
      have HIQ5 := Lib.hid (hs5.ints HIQ.out)
      have HS5 := Lib.hid (HS4.out.trans (hs5))
      have H5 := Lib.hid hg5
      have HR5 := Lib.hid (HR4.out.fine (hu5.fine (ht := ht + np) hz5))
      have c0 := H5.out.c0
      clear hg5 hs5 H4 HS4 HR4
      clear hu5 hz5 HIP HIQ
      go_wp2_with fail
      go_at_call 13
      refine (put_any H5.out _ _ _ _ _ ⟨[], IntsK.nil _ _⟩ ((HR5.out.most hw).le (by omega)) HPL.out).mono ?_
      rintro e w6 ⟨rfl, x6, hg6, hs6, hn6⟩
      have HIP6 := Lib.hid (hs6.ints HIP5.out)
      have HIQ6 := Lib.hid (hs6.ints HIQ5.out)
      have HS6 := Lib.hid (HS5.out.trans (hs6))
      have H6 := Lib.hid hg6
      have HR6 := Lib.hid (HR5.out.fine (hn6.fine (ht := ht + np) HR5.out.1))
      have c0 := H6.out.c0
      clear hg6 hs6 H5 HS5 HR5
      clear hn6 HIP5 HIQ5
      go_wp2_with fail
      go_at_call 25
      refine (swap_any H6.out _ _ P Q HIP6.out HIQ6.out (by rw [HNP.out]; have := HR6.out.1; omega) (by rw [HNQ.out]; omega) ((HR6.out.most hw).le (by omega))).mono ?_
      rintro e w7 ⟨rfl, x7, hg7, hs7, z1, z2, z3, z4⟩
      rw [HNP.out, HNQ.out] at z1
      have hf7 : Fine x6 x7 ht 1 := ⟨by have := HR6.out.1; omega, by omega, z3, z4⟩
      have HS7 := Lib.hid (HS6.out.trans (hs7))
      have H7 := Lib.hid hg7
      have HR7 := Lib.hid (HR6.out.fine hf7)
      have c0 := H7.out.c0
      clear hg7 hs7 H6 HS6 HR6
      clear z1 z2 z3 z4 hf7 HIP6 HIQ6
      clear c0
      go_wp2
      go_ret
      exact ⟨_, rfl, _, H7.out, HS7.out, HR7.out.le (by omega)⟩
  · have hal := fun o => (H1.out.alloc o).1.c0
    go_wp2_with fail
    go_at_call 8
    refine (next_gen (x := x1) (H1.out.alloc _).1 3 (by omega) (by omega)).mono ?_
    rintro e w2 ⟨r2, hr2, rfl, x2, hg2, hs2, hn2⟩
    obtain ⟨t, hv⟩ := lit3 r2 hr2
    have hcv := (H1.out.new_cell _ _ hs2 r2).trans hv
    have HS2 := Lib.hid (HS1.out.trans ((H1.out.alloc _).2.trans hs2))
    have H2 := Lib.hid hg2
    have HR2 := Lib.hid (HR1.out.fine (hn2.fine (ht := ht) HR1.out.1))
    have c0 := H2.out.c0
    clear hg2 hs2 H1 HS1 HR1
    clear hn2 hv hal
    go_wp2_with fail
    go_at_call 19
    refine (value_any H2.out t ((HR2.out.most hw).le (by omega))).mono ?_
    rintro e w3 ⟨rfl, x3, hg3, hs3, hn3⟩
    have HS3 := Lib.hid (HS2.out.trans (hs3))
    have H3 := Lib.hid hg3
    have HR3 := Lib.hid (HR2.out.fine (hn3.fine (ht := ht) HR2.out.1))
    have c0 := H3.out.c0
    clear hg3 hs3 H2 HS2 HR2
    clear hn3 hcv
    clear c0
    go_wp2
    go_ret
    exact ⟨_, rfl, _, H3.out, HS3.out, HR3.out.le (by omega)⟩
  · obtain ⟨Alo, clo, hlov, _, _⟩ := H1.out.reads.loc.1.form
    have hlo100 := H1.out.reads.loc.2
    have HC9 : Hid (∀ (wy : World) (y : St), Gen F wy y → wy.cell? ⟨F.G, 9, none⟩ = some (.slice Alo F.lo.length clo)) := fun wy y hy => by rw [hy.c9, hlov]
    have HLC : Hid (∀ (wy : World) (y : St), Gen F wy y → IntsK (rfree F wy y) wy (.slice Alo F.lo.length clo) F.lo) := fun wy y hy => by have h9 := hy.reads.loc.1; rwa [hlov] at h9
    clear hlov
    generalize hnl : F.lo.length = nlo at *
    have HNL := Lib.hid hnl
    clear hnl
    have c9 := HC9.out _ _ H1.out
    rcases Nat.eq_zero_or_pos nlo with h0 | h0
    · subst h0
      clear HLC HC9
      go_wp2
      go_ret
      exact ⟨_, rfl, _, H1.out, HS1.out, HR1.out.le (by omega)⟩
    · have hd0 : decide ((0 : Int) < (nlo : Int)) = true := by simp; omega
      go_wp2_with fail
      go_region_held3 (fun w' => w'.cell? ⟨F.G, 0, none⟩ = some (.pointer (some ⟨F.T, 0, none⟩)) ∧ w'.cell? ⟨F.G, 9, none⟩ = some (.slice Alo nlo clo))
        (first | go_keep | exact ⟨hg2.c0, HC9.out _ _ hg2⟩)
        ((go_at_call 8; refine (next_gen H1.out.drew.1 nlo (by omega) (by omega)).mono ?_; rintro e w2 ⟨r2, hr2, rfl, x2, hg2, hs2, hn2⟩))
      have HS2 := Lib.hid (HS1.out.trans (H1.out.drew.2.trans hs2))
      have H2 := Lib.hid hg2
      have HR2 := Lib.hid (HR1.out.fine (hn2.fine (ht := ht) HR1.out.1))
      have c0 := H2.out.c0
      clear hg2 hs2 H1 HS1 HR1
      clear hn2 hd0
      have HA : Hid (∃ g o, Alo = some ⟨g, o, none⟩) := by obtain ⟨g, o, c, he, _, _⟩ := (HLC.out _ _ H2.out).some_ (by rw [HNL.out]; exact h0); simp only [Value.slice.injEq] at he; exact ⟨g, o, he.1⟩
      obtain ⟨glo, olo, rfl⟩ := HA.out
      have HCL : Hid (∀ (wy : World) (y : St), Gen F wy y → wy.cell? ⟨glo, olo + r2, none⟩ = some (.int .i64 (F.lo.getD r2 0))) := fun wy y hy => (HLC.out wy y hy).at_ r2 hr2
      generalize F.lo.getD r2 0 = t at HCL
      clear HLC HA c9
      have c9 := HC9.out _ _ H2.out
      have k2 := HCL.out _ _ H2.out
      have hli := H2.out.lit [t] 3 (by simp)
      obtain ⟨hga, hsa⟩ := H2.out.alloc (.cells ([t].map (Value.int .i64)).toArray 3)
      go_wp2_with fail
      go_at_call 24
      refine (need_any hga _ [t] hli (by simp) ht HR2.out.1 ((HR2.out.most hw).le (by omega))).mono ?_
      rintro e w3 ⟨rfl, x3, hg3, hs3, hu3, hz3⟩
      replace hs3 := hsa.trans hs3
      replace hz3 : ht + 1 ≤ x3.s.length := hz3
      have HS3 := Lib.hid (HS2.out.trans (hs3))
      have H3 := Lib.hid hg3
      have HR3 := Lib.hid (HR2.out.fine (hu3.fine (ht := ht + 1) hz3))
      have c0 := H3.out.c0
      clear hg3 hs3 H2 HS2 HR2
      clear hli hga hsa hu3 hz3
      clear c9 k2
      go_wp2_with fail
      go_at_call 8
      refine (next_gen H3.out 2 (by omega) (by omega)).mono ?_
      rintro e w4 ⟨r4, hr4, rfl, x4, hg4, hs4, hn4⟩
      have HS4 := Lib.hid (HS3.out.trans (hs4))
      have H4 := Lib.hid hg4
      have HR4 := Lib.hid (HR3.out.fine (hn4.fine (ht := ht + 1) HR3.out.1))
      have c0 := H4.out.c0
      clear hg4 hs4 H3 HS3 HR3
      clear hn4
      rcases (show r4 = 0 ∨ r4 = 1 by omega) with rfl | rfl
      · go_wp2_with fail
        go_at_call 13
        refine (put_any H4.out _ _ _ _ _ ⟨[], IntsK.nil _ _⟩ ((HR4.out.most hw).le (by omega))).mono ?_
        rintro e w5 ⟨rfl, x5, hg5, hs5, hn5⟩
        have HS5 := Lib.hid (HS4.out.trans (hs5))
        have H5 := Lib.hid hg5
        have HR5 := Lib.hid (HR4.out.fine (hn5.fine (ht := ht + 1) HR4.out.1))
        have c0 := H5.out.c0
        clear hg5 hs5 H4 HS4 HR4
        clear hn5
        have HR6 := Lib.hid (HR5.out.lower (b := ht) (by omega))
        clear c0
        go_wp2
        go_ret
        exact ⟨_, rfl, _, H5.out, HS5.out, HR6.out.le (by omega)⟩
      · go_wp2_with fail
        go_at_call 13
        refine (put_any H4.out _ _ _ _ _ ⟨[], IntsK.nil _ _⟩ ((HR4.out.most hw).le (by omega))).mono ?_
        rintro e w5 ⟨rfl, x5, hg5, hs5, hn5⟩
        have HS5 := Lib.hid (HS4.out.trans (hs5))
        have H5 := Lib.hid hg5
        have HR5 := Lib.hid (HR4.out.fine (hn5.fine (ht := ht + 1) HR4.out.1))
        have c0 := H5.out.c0
        clear hg5 hs5 H4 HS4 HR4
        clear hn5
        have c9 := HC9.out _ _ H5.out
        have k2 := HCL.out _ _ H5.out
        have hli := H5.out.lit [t] 3 (by simp)
        obtain ⟨hga, hsa⟩ := H5.out.alloc (.cells ([t].map (Value.int .i64)).toArray 3)
        go_wp2_with fail
        go_at_call 25
        refine (swap_any hga _ _ [t] [] hli (IntsK.nil _ _) (by show 1 ≤ _; have := HR5.out.1; omega) (by simp) ((HR5.out.most hw).le (by omega))).mono ?_
        rintro e w6 ⟨rfl, x6, hg6, hs6, z1, z2, z3, z4⟩
        replace z1 : x6.s.length + 1 = x5.s.length + 0 := z1
        have hf6 : Fine x5 x6 ht 0 := ⟨by have := HR5.out.1; omega, by omega, z3, z4⟩
        have HS6 := Lib.hid (HS5.out.trans (hsa.trans hs6))
        have H6 := Lib.hid hg6
        have HR6 := Lib.hid (HR5.out.fine hf6)
        have c0 := H6.out.c0
        clear hg6 hs6 H5 HS5 HR5
        clear hli hga hsa z1 z2 z3 z4 hf6
        clear c9 k2
        clear c0
        go_wp2
        go_ret
        exact ⟨_, rfl, _, H6.out, HS6.out, HR6.out.le (by omega)⟩
  · go_wp2_with fail
    go_at_call 8
    refine (next_gen H1.out 3 (by omega) (by omega)).mono ?_
    rintro e w2 ⟨r2, hr2, rfl, x2, hg2, hs2, hn2⟩
    have HS2 := Lib.hid (HS1.out.trans (hs2))
    have H2 := Lib.hid hg2
    have HR2 := Lib.hid (HR1.out.fine (hn2.fine (ht := ht) HR1.out.1))
    have c0 := H2.out.c0
    clear hg2 hs2 H1 HS1 HR1
    clear hn2
    obtain ⟨gm, om, cm, hm4, _, _⟩ := CellsK.some_ H2.out.reads.globs.1 (by rw [H2.out.reads.globs.2]; omega)
    have hfk := H2.out.reads.globs.1
    rw [hm4] at hfk
    have k5 := H2.out.c5
    rw [hm4, H2.out.reads.globs.2] at k5
    have kt := hfk.at_ r2 (by rw [H2.out.reads.globs.2]; omega) (by omega)
    generalize F.gs.getD r2 0 = t at kt
    rw [Nat.add_zero] at kt
    clear hfk hm4
    have hli := H2.out.lit [t] 3 (by simp)
    obtain ⟨hga, hsa⟩ := H2.out.alloc (.cells ([t].map (Value.int .i64)).toArray 3)
    go_wp2_with fail
    go_at_call 24
    refine (need_any hga _ [t] hli (by simp) ht HR2.out.1 ((HR2.out.most hw).le (by omega))).mono ?_
    rintro e w3 ⟨rfl, x3, hg3, hs3, hu3, hz3⟩
    replace hs3 := hsa.trans hs3
    replace hz3 : ht + 1 ≤ x3.s.length := hz3
    have HS3 := Lib.hid (HS2.out.trans (hs3))
    have H3 := Lib.hid hg3
    have HR3 := Lib.hid (HR2.out.fine (hu3.fine (ht := ht + 1) hz3))
    have c0 := H3.out.c0
    clear hg3 hs3 H2 HS2 HR2
    clear hli hga hsa hu3 hz3
    clear k5 kt
    go_wp2_with fail
    go_at_call 13
    refine (put_any H3.out _ _ _ _ _ ⟨[], IntsK.nil _ _⟩ ((HR3.out.most hw).le (by omega))).mono ?_
    rintro e w4 ⟨rfl, x4, hg4, hs4, hn4⟩
    have HS4 := Lib.hid (HS3.out.trans (hs4))
    have H4 := Lib.hid hg4
    have HR4 := Lib.hid (HR3.out.fine (hn4.fine (ht := ht + 1) HR3.out.1))
    have c0 := H4.out.c0
    clear hg4 hs4 H3 HS3 HR3
    clear hn4
    have hli := H4.out.lit [t] 3 (by simp)
    obtain ⟨hga, hsa⟩ := H4.out.alloc (.cells ([t].map (Value.int .i64)).toArray 3)
    go_wp2_with fail
    go_at_call 25
    refine (swap_any hga _ _ [t] [] hli (IntsK.nil _ _) (by show 1 ≤ _; have := HR4.out.1; omega) (by simp) ((HR4.out.most hw).le (by omega))).mono ?_
    rintro e w5 ⟨rfl, x5, hg5, hs5, z1, z2, z3, z4⟩
    replace z1 : x5.s.length + 1 = x4.s.length + 0 := z1
    have hf5 : Fine x4 x5 ht 0 := ⟨by have := HR4.out.1; omega, by omega, z3, z4⟩
    have HS5 := Lib.hid (HS4.out.trans (hsa.trans hs5))
    have H5 := Lib.hid hg5
    have HR5 := Lib.hid (HR4.out.fine hf5)
    have c0 := H5.out.c0
    clear hg5 hs5 H4 HS4 HR4
    clear hli hga hsa z1 z2 z3 z4 hf5
    clear c0
    go_wp2
    go_ret
    exact ⟨_, rfl, _, H5.out, HS5.out, HR5.out.le (by omega)⟩
  · rcases h7 with rfl | rfl
    all_goals
      have HM := Lib.hid (memory_any H1.out ht HR1.out.1 ((HR1.out.most hw).le (by omega)))
      go_wp2_with fail
      go_at_call 26
      refine (HM.out).mono ?_
      rintro e w2 ⟨rfl, x2, hg2, hs2, hf2⟩
      have HS2 := Lib.hid (HS1.out.trans (hs2))
      have H2 := Lib.hid hg2
      have HR2 := Lib.hid (HR1.out.fine hf2)
      have c0 := H2.out.c0
      clear hg2 hs2 H1 HS1 HR1
      clear hf2
      go_wp2
      go_ret
      exact ⟨_, rfl, _, H2.out, HS2.out, HR2.out.le (by omega)⟩
  · have HM := Lib.hid (bulk_any H1.out ht HR1.out.1 ((HR1.out.most hw).le (by omega)))
    go_wp2_with fail
    go_at_call 27
    refine (HM.out).mono ?_
    rintro e w2 ⟨rfl, x2, hg2, hs2, hf2⟩
    have HS2 := Lib.hid (HS1.out.trans (hs2))
    have H2 := Lib.hid hg2
    have HR2 := Lib.hid (HR1.out.fine hf2)
    have c0 := H2.out.c0
    clear hg2 hs2 H1 HS1 HR1
    clear hf2
    go_wp2
    go_ret
    exact ⟨_, rfl, _, H2.out, HS2.out, HR2.out.le (by omega)⟩
  · rcases h10 with rfl | rfl
    all_goals
      have HM := Lib.hid (HBLK.out _ _ H1.out HR1.out.1 HR1.out.2.2.1 HR1.out.2.2.2.1 HR1.out.2.2.2.2 (by have := HR1.out.2.1; omega))
      go_wp2_with fail
      go_at_call 28
      refine (HM.out).mono ?_
      rintro e w2 ⟨rfl, x2, hg2, hs2, hf2⟩
      have HS2 := Lib.hid (HS1.out.trans (hs2))
      have H2 := Lib.hid hg2
      have HR2 := Lib.hid (HR1.out.trans hf2)
      have c0 := H2.out.c0
      clear hg2 hs2 H1 HS1 HR1
      clear hf2
      go_wp2
      go_ret
      exact ⟨_, rfl, _, H2.out, HS2.out, HR2.out.le (by omega)⟩
  · have HM := Lib.hid (call_any H1.out ht HR1.out.1 ((HR1.out.most hw).le (by omega)))
    go_wp2_with fail
    go_at_call 29
    refine (HM.out).mono ?_
    rintro e w2 ⟨rfl, x2, hg2, hs2, hf2⟩
    have HS2 := Lib.hid (HS1.out.trans (hs2))
    have H2 := Lib.hid hg2
    have HR2 := Lib.hid (HR1.out.fine hf2)
    have c0 := H2.out.c0
    clear hg2 hs2 H1 HS1 HR1
    clear hf2
    go_wp2
    go_ret
    exact ⟨_, rfl, _, H2.out, HS2.out, HR2.out.le (by omega)⟩
  · have HM := Lib.hid (leave_any H1.out ht HR1.out.1 (by have := HR1.out.2.2.1; have := HNN.out; omega) (by have := HR1.out.2.2.1; have := HNN.out; omega) ((HR1.out.most hw).le (by omega)) HE.out)
    go_wp2_with fail
    go_at_call 30
    refine HM.out.mono ?_
    rintro e w2 ⟨bb, rfl, x2, hg2, hs2, hf2⟩
    have HS2 := Lib.hid (HS1.out.trans (hs2))
    have H2 := Lib.hid hg2
    have HR2 := Lib.hid (HR1.out.fine hf2)
    have c0 := H2.out.c0
    clear hg2 hs2 H1 HS1 HR1
    clear hf2
    clear c0
    go_wp2
    go_ret
    exact ⟨_, rfl, _, H2.out, HS2.out, HR2.out.le (by omega)⟩
  · have HM := Lib.hid (branchIf_any H1.out ht HR1.out.1 (by have := HR1.out.2.2.1; have := HNN.out; omega) (by have := HR1.out.2.2.1; have := HNN.out; omega) ((HR1.out.most hw).le (by omega)))
    go_wp2_with fail
    go_at_call 31
    refine (HM.out).mono ?_
    rintro e w2 ⟨rfl, x2, hg2, hs2, hf2⟩
    have HS2 := Lib.hid (HS1.out.trans (hs2))
    have H2 := Lib.hid hg2
    have HR2 := Lib.hid (HR1.out.fine hf2)
    have c0 := H2.out.c0
    clear hg2 hs2 H1 HS1 HR1
    clear hf2
    go_wp2
    go_ret
    exact ⟨_, rfl, _, H2.out, HS2.out, HR2.out.le (by omega)⟩
  · have hal := fun o => (H1.out.alloc o).1.c0
    go_wp2_with fail
    go_at_call 8
    refine (next_gen (x := x1) (H1.out.alloc _).1 3 (by omega) (by omega)).mono ?_
    rintro e w2 ⟨r2, hr2, rfl, x2, hg2, hs2, hn2⟩
    obtain ⟨t, hv⟩ := lit3 r2 hr2
    have hcv := (H1.out.new_cell _ _ hs2 r2).trans hv
    have HS2 := Lib.hid (HS1.out.trans ((H1.out.alloc _).2.trans hs2))
    have H2 := Lib.hid hg2
    have HR2 := Lib.hid (HR1.out.fine (hn2.fine (ht := ht) HR1.out.1))
    have c0 := H2.out.c0
    clear hg2 hs2 H1 HS1 HR1
    clear hn2 hv hal
    have hli := H2.out.lit [t, t, 127] 3 (by simp)
    obtain ⟨hga, hsa⟩ := H2.out.alloc (.cells ([t, t, 127].map (Value.int .i64)).toArray 3)
    go_wp2_with fail
    go_at_call 24
    refine (need_any hga _ [t, t, 127] hli (by simp) ht HR2.out.1 ((HR2.out.most hw).le (by omega))).mono ?_
    rintro e w3 ⟨rfl, x3, hg3, hs3, hu3, hz3⟩
    replace hs3 := hsa.trans hs3
    replace hz3 : ht + 3 ≤ x3.s.length := hz3
    have HS3 := Lib.hid (HS2.out.trans (hs3))
    have H3 := Lib.hid hg3
    have HR3 := Lib.hid (HR2.out.fine (hu3.fine (ht := ht + 3) hz3))
    have c0 := H3.out.c0
    clear hg3 hs3 H2 HS2 HR2
    clear hli hga hsa hu3 hz3
    clear hcv
    go_wp2_with fail
    go_at_call 13
    refine (put_any H3.out _ _ _ _ _ ⟨[], IntsK.nil _ _⟩ ((HR3.out.most hw).le (by omega))).mono ?_
    rintro e w4 ⟨rfl, x4, hg4, hs4, hn4⟩
    have HS4 := Lib.hid (HS3.out.trans (hs4))
    have H4 := Lib.hid hg4
    have HR4 := Lib.hid (HR3.out.fine (hn4.fine (ht := ht + 3) HR3.out.1))
    have c0 := H4.out.c0
    clear hg4 hs4 H3 HS3 HR3
    clear hn4
    have hli := H4.out.lit [t, t, 127] 3 (by simp)
    obtain ⟨hga, hsa⟩ := H4.out.alloc (.cells ([t, t, 127].map (Value.int .i64)).toArray 3)
    have hlj := hga.lit [t] 3 (by simp)
    rw [show (w4.alloc (.cells ([t, t, 127].map (Value.int .i64)).toArray 3)).heap.size = w4.heap.size + 1 by simp] at hlj
    obtain ⟨hgb, hsb⟩ := hga.alloc (.cells ([t].map (Value.int .i64)).toArray 3)
    go_wp2_with fail
    go_at_call 25
    refine (swap_any hgb _ _ [t, t, 127] [t] (hsb.ints hli) hlj (by show 3 ≤ _; have := HR4.out.1; omega) (by simp) ((HR4.out.most hw).le (by omega))).mono ?_
    rintro e w5 ⟨rfl, x5, hg5, hs5, z1, z2, z3, z4⟩
    replace z1 : x5.s.length + 3 = x4.s.length + 1 := z1
    have hf5 : Fine x4 x5 ht 0 := ⟨by have := HR4.out.1; omega, by omega, z3, z4⟩
    have HS5 := Lib.hid (HS4.out.trans (hsa.trans (hsb.trans hs5)))
    have H5 := Lib.hid hg5
    have HR5 := Lib.hid (HR4.out.fine hf5)
    have c0 := H5.out.c0
    clear hg5 hs5 H4 HS4 HR4
    clear hli hga hsa z1 z2 z3 z4 hf5 hlj hgb hsb
    clear c0
    go_wp2
    go_ret
    exact ⟨_, rfl, _, H5.out, HS5.out, HR5.out.le (by omega)⟩
end Go.Proofs.Ytdfonjnplmfhfaa
