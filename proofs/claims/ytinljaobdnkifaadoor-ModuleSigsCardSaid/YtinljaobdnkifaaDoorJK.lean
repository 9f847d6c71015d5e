/-
  Contract of one, given body's at as many to make. Written by wip/tools/gen_kone.py.
  body and one, by induction on how much is left to make.
  Contract of the maker's types: the nine.
  append onto a row that the code owns: the old row stays what it was, too.
  What the maker of modules holds while it makes one.
  Module: its tape, its start.
  The maker of code, out of the maker of modules.
  The names f0 .. f3: an int, a rune, a string.
  What the maker of modules holds while functions get their code; the module that it leaves, as plain data.
  Contract of Module. Written by wip/tools/gen_kmodule.py.
-/
import Derived.Test.YtinljaobdnkifaaDoorKblock
import Derived.Test.YtinljaobdnkifaaDoorKops
import Derived.Test.YtinljaobdnkifaaDoorKst
import Derived.Test.YtinljaobdnkifaaDoorKrow
import Derived.Test.YtinljaobdnkifaaDoorKloc
import Derived.OneCell
import Derived.Test.YtinljaobdnkifaaDoorMd
namespace Go.Proofs.YtinljaobdnkifaaDoor
open Go.RowKit

/-- New numbers are the call's own. -/
theorem Gen.newInts {F : Fx} {w w' : World} {x : St} (h : Gen F w x) {v : Value} {l : List Int} (hv : IntsK (fun k => w.heap.size ≤ k ∧ k < w'.heap.size) w' v l) : IntsK (free F w' x) w' v l := hv.keep (Keeps.refl _ _) fun _ hk => ⟨hk.2, h.new_free hk.1⟩
theorem params_le (op : Int) : (paramsB op).length ≤ 2 ∧ (resultsB op).length ≤ 1 := by
  unfold paramsB resultsB
  by_cases h : numB op = true
  · rw [if_pos h, if_pos h, List.length_replicate]
    have := sig_count op h
    exact ⟨by omega, by simp⟩
  · rw [if_neg h, if_neg h]
    exact ⟨by simp, by simp⟩
theorem lit3 (r : Nat) (hr : r < 3) : ∃ v : Int, #[Value.int .i64 127, .int .i64 126, .int .i64 124][r]? = some (.int .i64 v) := by
  match r with
  | 0 | 1 | 2 => exact ⟨_, rfl⟩

set_option maxRecDepth 100000 in
set_option maxHeartbeats 8000000 in
theorem one_of_body {F : Fx} {L : Int} (hb : ∀ q', BodyOk { F with o := some q' } L) (hE : ∀ k, ¬ F.E k) : OneOk F L := by
  intro w x ht h hh hn hn8 hl0 hlL hw0 hqn
  obtain ⟨q, hq, hqn⟩ := hqn
  have HBLK := Lib.hid (fun (wz : World) (z : St) (hg : Gen F wz z) (h1 : ht ≤ z.s.length) (h2 : z.nl = x.nl) (h3 : 0 ≤ z.left) (h4 : z.left ≤ x.left) (h5 : wgt z ≤ 799900) => block_any hb hg hq ht h1 (by omega) (by omega) (by omega) h3 (by omega) h5 hE)
  have HE := Lib.hid hE
  have hw := hw0
  have H0 := Lib.hid h
  have HS0 := Lib.hid (Step.refl F w x)
  have HR0 := Lib.hid (show Grew x x ht 0 from ⟨hh, Nat.le_refl _, rfl, hl0, Int.le_refl _⟩)
  have c0 := h.c0
  have HNN := Lib.hid (And.intro hn hn8)
  clear hb h hq hqn hh hl0 hlL hE hw0 hn hn8
  go_enter Tryd.func25, Tryd.ntmps25
  go_wp2_with fail
  go_at_call 12
  refine (next_gen H0.out 16 (by omega) (by omega)).mono ?_
  rintro e w1 ⟨r1, hr1, rfl, x1, hg1, hs1, hn1⟩
  have HS1 := Lib.hid (HS0.out.trans (hs1))
  have H1 := Lib.hid hg1
  have HR1 := Lib.hid (HR0.out.fine (hn1.fine (ht := ht) HR0.out.1))
  have c0 := H1.out.c0
  clear hg1 hs1 H0 HS0 HR0
  clear hn1
  rcases (show r1 < 4 ∨ r1 = 4 ∨ r1 = 5 ∨ r1 = 6 ∨ (r1 = 7 ∨ r1 = 8) ∨ r1 = 9 ∨ (r1 = 10 ∨ r1 = 11) ∨ r1 = 12 ∨ r1 = 13 ∨ r1 = 14 ∨ r1 = 15 by omega) with h4 | rfl | rfl | rfl | h7 | rfl | h10 | rfl | rfl | rfl | rfl
  · rcases (show r1 = 0 ∨ r1 = 1 ∨ r1 = 2 ∨ r1 = 3 by omega) with rfl | rfl | rfl | rfl
    all_goals
      go_wp2_with fail
      go_at_call 51
      refine (ops_any _).mono ?_
      rintro e w2 ⟨v, l, rfl, hl, hl0, hl2, hl69, hb2⟩
      obtain ⟨gl, ol, cl, hv, _, _⟩ := hl.some_ hl0
      obtain ⟨hg2, hs2⟩ := H1.out.below hb2
      have HL := Lib.hid (H1.out.newInts hl)
      have HL69 := Lib.hid hl69
      rw [hv] at HL ⊢
      clear hv hl hb2 hl69
      generalize hll : l.length = ll at *
      have HLL := Lib.hid hll
      clear hll
      have HS2 := Lib.hid (HS1.out.trans hs2)
      have H2 := Lib.hid hg2
      have HR2 := HR1
      have c0 := H2.out.c0
      clear hg2 hs2 H1 HS1 HR1
      go_wp2_with fail
      go_at_call 12
      refine (next_gen H2.out ll (by omega) (by omega)).mono ?_
      rintro e w3 ⟨r3, hr3, rfl, x3, hg3, hs3, hn3⟩
      have hcell := (hs3.ints HL.out).at_ r3 hr3
      obtain ⟨op, hop⟩ : ∃ op, l.getD r3 0 = op := ⟨_, rfl⟩
      have hop69 : 69 ≤ op := by rw [← hop]; exact HL69.out _ (getD_mem l r3 0 (by rw [HLL.out]; exact hr3))
      rw [hop] at hcell
      have HPL := Lib.hid (plain_of (show op ≠ 2 ∧ op ≠ 3 ∧ op ≠ 4 ∧ op ≠ 5 ∧ op ≠ 11 by omega))
      clear hop hop69 HL69 HLL
      have HS3 := Lib.hid (HS2.out.trans (hs3))
      have H3 := Lib.hid hg3
      have HR3 := Lib.hid (HR2.out.fine (hn3.fine (ht := ht) HR2.out.1))
      have c0 := H3.out.c0
      clear hg3 hs3 H2 HS2 HR2
      clear hn3 HL
      have HNM := Lib.hid (fun wz => rnum_any op wz)
      have HPL2 := Lib.hid (params_le op)
      unfold RNumPost at HNM
      generalize numB op = nb at HNM
      go_wp2_with fail
      go_at_call 52
      refine (HNM.out _).mono ?_
      rintro e w4 ⟨p, q2, rfl, hp, hq2, hb4⟩
      obtain ⟨hg4, hs4⟩ := H3.out.below hb4
      have hip := H3.out.newInts hp.ints
      have hiq := H3.out.newInts hq2.ints
      obtain ⟨Ap, cp, hpv, _, _⟩ := hip.form
      obtain ⟨Aq, cq, hqv, _, _⟩ := hiq.form
      rw [hpv] at hip ⊢
      rw [hqv] at hiq ⊢
      clear hpv hqv hp hq2 hb4 hcell HNM
      obtain ⟨hp2, hq1⟩ := HPL2.out
      generalize paramsB op = P at *
      generalize resultsB op = Q at *
      generalize hnp : P.length = np at *
      generalize hnq : Q.length = nq at *
      have HNP := Lib.hid hnp
      have HNQ := Lib.hid hnq
      have HIP := Lib.hid hip
      have HIQ := Lib.hid hiq
      clear hnp hnq hip hiq HPL2
      have HS4 := Lib.hid (HS3.out.trans hs4)
      have H4 := Lib.hid hg4
      have HR4 := HR3
      have c0 := H4.out.c0
      clear hg4 hs4 H3 HS3 HR3
      go_wp2_with fail
      go_at_call 53
      refine (need_any H4.out _ P HIP.out (by rw [HNP.out]; omega) ht HR4.out.1 ((HR4.out.most hw).le (by omega))).mono ?_
      rintro e w5 ⟨rfl, x5, hg5, hs5, hu5, hz5⟩
      rw [HNP.out] at hz5
      have HIP5 := Lib.hid (hs5.ints HIP.out)
      have HIQ5 := Lib.hid (hs5.ints HIQ.out)
      have HS5 := Lib.hid (HS4.out.trans (hs5))
      have H5 := Lib.hid hg5
      have HR5 := Lib.hid (HR4.out.fine (hu5.fine (ht := ht + np) hz5))
      have c0 := H5.out.c0
      clear hg5 hs5 H4 HS4 HR4
      clear hu5 hz5 HIP HIQ
      go_wp2_with fail
      go_at_call 17
      refine (put_any H5.out _ _ _ _ _ ⟨[], IntsK.nil _ _⟩ ((HR5.out.most hw).le (by omega)) HPL.out).mono ?_
      rintro e w6 ⟨rfl, x6, hg6, hs6, hn6⟩
      have HIP6 := Lib.hid (hs6.ints HIP5.out)
      have HIQ6 := Lib.hid (hs6.ints HIQ5.out)
      have HS6 := Lib.hid (HS5.out.trans (hs6))
      have H6 := Lib.hid hg6
      have HR6 := Lib.hid (HR5.out.fine (hn6.fine (ht := ht + np) HR5.out.1))
      have c0 := H6.out.c0
      clear hg6 hs6 H5 HS5 HR5
      clear hn6 HIP5 HIQ5
      go_wp2_with fail
      go_at_call 54
      refine (swap_any H6.out _ _ P Q HIP6.out HIQ6.out (by rw [HNP.out]; have := HR6.out.1; omega) (by rw [HNQ.out]; omega) ((HR6.out.most hw).le (by omega))).mono ?_
      rintro e w7 ⟨rfl, x7, hg7, hs7, z1, z2, z3, z4⟩
      rw [HNP.out, HNQ.out] at z1
      have hf7 : Fine x6 x7 ht 1 := ⟨by have := HR6.out.1; omega, by omega, z3, z4⟩
      have HS7 := Lib.hid (HS6.out.trans (hs7))
      have H7 := Lib.hid hg7
      have HR7 := Lib.hid (HR6.out.fine hf7)
      have c0 := H7.out.c0
      clear hg7 hs7 H6 HS6 HR6
      clear z1 z2 z3 z4 hf7 HIP6 HIQ6
      clear c0
      go_wp2
      go_ret
      exact ⟨_, rfl, _, H7.out, HS7.out, HR7.out.le (by omega)⟩
  · have hal := fun o => (H1.out.alloc o).1.c0
    go_wp2_with fail
    go_at_call 12
    refine (next_gen (x := x1) (H1.out.alloc _).1 3 (by omega) (by omega)).mono ?_
    rintro e w2 ⟨r2, hr2, rfl, x2, hg2, hs2, hn2⟩
    obtain ⟨t, hv⟩ := lit3 r2 hr2
    have hcv := (H1.out.new_cell _ _ hs2 r2).trans hv
    have HS2 := Lib.hid (HS1.out.trans ((H1.out.alloc _).2.trans hs2))
    have H2 := Lib.hid hg2
    have HR2 := Lib.hid (HR1.out.fine (hn2.fine (ht := ht) HR1.out.1))
    have c0 := H2.out.c0
    clear hg2 hs2 H1 HS1 HR1
    clear hn2 hv hal
    go_wp2_with fail
    go_at_call 27
    refine (value_any H2.out t ((HR2.out.most hw).le (by omega))).mono ?_
    rintro e w3 ⟨rfl, x3, hg3, hs3, hn3⟩
    have HS3 := Lib.hid (HS2.out.trans (hs3))
    have H3 := Lib.hid hg3
    have HR3 := Lib.hid (HR2.out.fine (hn3.fine (ht := ht) HR2.out.1))
    have c0 := H3.out.c0
    clear hg3 hs3 H2 HS2 HR2
    clear hn3 hcv
    clear c0
    go_wp2
    go_ret
    exact ⟨_, rfl, _, H3.out, HS3.out, HR3.out.le (by omega)⟩
  · obtain ⟨Alo, clo, hlov, _, _⟩ := H1.out.reads.loc.1.form
    have hlo100 := H1.out.reads.loc.2
    have HC9 : Hid (∀ (wy : World) (y : St), Gen F wy y → wy.cell? ⟨F.G, 9, none⟩ = some (.slice Alo F.lo.length clo)) := fun wy y hy => by rw [hy.c9, hlov]
    have HLC : Hid (∀ (wy : World) (y : St), Gen F wy y → IntsK (rfree F wy y) wy (.slice Alo F.lo.length clo) F.lo) := fun wy y hy => by have h9 := hy.reads.loc.1; rwa [hlov] at h9
    clear hlov
    generalize hnl : F.lo.length = nlo at *
    have HNL := Lib.hid hnl
    clear hnl
    have c9 := HC9.out _ _ H1.out
    rcases Nat.eq_zero_or_pos nlo with h0 | h0
    · subst h0
      clear HLC HC9
      go_wp2
      go_ret
      exact ⟨_, rfl, _, H1.out, HS1.out, HR1.out.le (by omega)⟩
    · have hd0 : decide ((0 : Int) < (nlo : Int)) = true := by simp; omega
      go_wp2_with fail
      go_region_held3 (fun w' => w'.cell? ⟨F.G, 0, none⟩ = some (.pointer (some ⟨F.T, 0, none⟩)) ∧ w'.cell? ⟨F.G, 9, none⟩ = some (.slice Alo nlo clo))
        (first | go_keep | exact ⟨hg2.c0, HC9.out _ _ hg2⟩)
        ((go_at_call 12; refine (next_gen H1.out.drew.1 nlo (by omega) (by omega)).mono ?_; rintro e w2 ⟨r2, hr2, rfl, x2, hg2, hs2, hn2⟩))
      have HS2 := Lib.hid (HS1.out.trans (H1.out.drew.2.trans hs2))
      have H2 := Lib.hid hg2
      have HR2 := Lib.hid (HR1.out.fine (hn2.fine (ht := ht) HR1.out.1))
      have c0 := H2.out.c0
      clear hg2 hs2 H1 HS1 HR1
      clear hn2 hd0
      have HA : Hid (∃ g o, Alo = some ⟨g, o, none⟩) := by obtain ⟨g, o, c, he, _, _⟩ := (HLC.out _ _ H2.out).some_ (by rw [HNL.out]; exact h0); simp only [Value.slice.injEq] at he; exact ⟨g, o, he.1⟩
      obtain ⟨glo, olo, rfl⟩ := HA.out
      have HCL : Hid (∀ (wy : World) (y : St), Gen F wy y → wy.cell? ⟨glo, olo + r2, none⟩ = some (.int .i64 (F.lo.getD r2 0))) := fun wy y hy => (HLC.out wy y hy).at_ r2 hr2
      generalize F.lo.getD r2 0 = t at HCL
      clear HLC HA c9
      have c9 := HC9.out _ _ H2.out
      have k2 := HCL.out _ _ H2.out
      have hli := H2.out.lit [t] 3 (by simp)
      obtain ⟨hga, hsa⟩ := H2.out.alloc (.cells ([t].map (Value.int .i64)).toArray 3)
      go_wp2_with fail
      go_at_call 53
      refine (need_any hga _ [t] hli (by simp) ht HR2.out.1 ((HR2.out.most hw).le (by omega))).mono ?_
      rintro e w3 ⟨rfl, x3, hg3, hs3, hu3, hz3⟩
      replace hs3 := hsa.trans hs3
      replace hz3 : ht + 1 ≤ x3.s.length := hz3
      have HS3 := Lib.hid (HS2.out.trans (hs3))
      have H3 := Lib.hid hg3
      have HR3 := Lib.hid (HR2.out.fine (hu3.fine (ht := ht + 1) hz3))
      have c0 := H3.out.c0
      clear hg3 hs3 H2 HS2 HR2
      clear hli hga hsa hu3 hz3
      clear c9 k2
      go_wp2_with fail
      go_at_call 12
      refine (next_gen H3.out 2 (by omega) (by omega)).mono ?_
      rintro e w4 ⟨r4, hr4, rfl, x4, hg4, hs4, hn4⟩
      have HS4 := Lib.hid (HS3.out.trans (hs4))
      have H4 := Lib.hid hg4
      have HR4 := Lib.hid (HR3.out.fine (hn4.fine (ht := ht + 1) HR3.out.1))
      have c0 := H4.out.c0
      clear hg4 hs4 H3 HS3 HR3
      clear hn4
      rcases (show r4 = 0 ∨ r4 = 1 by omega) with rfl | rfl
      · go_wp2_with fail
        go_at_call 17
        refine (put_any H4.out _ _ _ _ _ ⟨[], IntsK.nil _ _⟩ ((HR4.out.most hw).le (by omega))).mono ?_
        rintro e w5 ⟨rfl, x5, hg5, hs5, hn5⟩
        have HS5 := Lib.hid (HS4.out.trans (hs5))
        have H5 := Lib.hid hg5
        have HR5 := Lib.hid (HR4.out.fine (hn5.fine (ht := ht + 1) HR4.out.1))
        have c0 := H5.out.c0
        clear hg5 hs5 H4 HS4 HR4
        clear hn5
        have HR6 := Lib.hid (HR5.out.lower (b := ht) (by omega))
        clear c0
        go_wp2
        go_ret
        exact ⟨_, rfl, _, H5.out, HS5.out, HR6.out.le (by omega)⟩
      · go_wp2_with fail
        go_at_call 17
        refine (put_any H4.out _ _ _ _ _ ⟨[], IntsK.nil _ _⟩ ((HR4.out.most hw).le (by omega))).mono ?_
        rintro e w5 ⟨rfl, x5, hg5, hs5, hn5⟩
        have HS5 := Lib.hid (HS4.out.trans (hs5))
        have H5 := Lib.hid hg5
        have HR5 := Lib.hid (HR4.out.fine (hn5.fine (ht := ht + 1) HR4.out.1))
        have c0 := H5.out.c0
        clear hg5 hs5 H4 HS4 HR4
        clear hn5
        have c9 := HC9.out _ _ H5.out
        have k2 := HCL.out _ _ H5.out
        have hli := H5.out.lit [t] 3 (by simp)
        obtain ⟨hga, hsa⟩ := H5.out.alloc (.cells ([t].map (Value.int .i64)).toArray 3)
        go_wp2_with fail
        go_at_call 54
        refine (swap_any hga _ _ [t] [] hli (IntsK.nil _ _) (by show 1 ≤ _; have := HR5.out.1; omega) (by simp) ((HR5.out.most hw).le (by omega))).mono ?_
        rintro e w6 ⟨rfl, x6, hg6, hs6, z1, z2, z3, z4⟩
        replace z1 : x6.s.length + 1 = x5.s.length + 0 := z1
        have hf6 : Fine x5 x6 ht 0 := ⟨by have := HR5.out.1; omega, by omega, z3, z4⟩
        have HS6 := Lib.hid (HS5.out.trans (hsa.trans hs6))
        have H6 := Lib.hid hg6
        have HR6 := Lib.hid (HR5.out.fine hf6)
        have c0 := H6.out.c0
        clear hg6 hs6 H5 HS5 HR5
        clear hli hga hsa z1 z2 z3 z4 hf6
        clear c9 k2
        clear c0
        go_wp2
        go_ret
        exact ⟨_, rfl, _, H6.out, HS6.out, HR6.out.le (by omega)⟩
  · go_wp2_with fail
    go_at_call 12
    refine (next_gen H1.out 3 (by omega) (by omega)).mono ?_
    rintro e w2 ⟨r2, hr2, rfl, x2, hg2, hs2, hn2⟩
    have HS2 := Lib.hid (HS1.out.trans (hs2))
    have H2 := Lib.hid hg2
    have HR2 := Lib.hid (HR1.out.fine (hn2.fine (ht := ht) HR1.out.1))
    have c0 := H2.out.c0
    clear hg2 hs2 H1 HS1 HR1
    clear hn2
    obtain ⟨gm, om, cm, hm4, _, _⟩ := CellsK.some_ H2.out.reads.globs.1 (by rw [H2.out.reads.globs.2]; omega)
    have hfk := H2.out.reads.globs.1
    rw [hm4] at hfk
    have k5 := H2.out.c5
    rw [hm4, H2.out.reads.globs.2] at k5
    have kt := hfk.at_ r2 (by rw [H2.out.reads.globs.2]; omega) (by omega)
    generalize F.gs.getD r2 0 = t at kt
    rw [Nat.add_zero] at kt
    clear hfk hm4
    have hli := H2.out.lit [t] 3 (by simp)
    obtain ⟨hga, hsa⟩ := H2.out.alloc (.cells ([t].map (Value.int .i64)).toArray 3)
    go_wp2_with fail
    go_at_call 53
    refine (need_any hga _ [t] hli (by simp) ht HR2.out.1 ((HR2.out.most hw).le (by omega))).mono ?_
    rintro e w3 ⟨rfl, x3, hg3, hs3, hu3, hz3⟩
    replace hs3 := hsa.trans hs3
    replace hz3 : ht + 1 ≤ x3.s.length := hz3
    have HS3 := Lib.hid (HS2.out.trans (hs3))
    have H3 := Lib.hid hg3
    have HR3 := Lib.hid (HR2.out.fine (hu3.fine (ht := ht + 1) hz3))
    have c0 := H3.out.c0
    clear hg3 hs3 H2 HS2 HR2
    clear hli hga hsa hu3 hz3
    clear k5 kt
    go_wp2_with fail
    go_at_call 17
    refine (put_any H3.out _ _ _ _ _ ⟨[], IntsK.nil _ _⟩ ((HR3.out.most hw).le (by omega))).mono ?_
    rintro e w4 ⟨rfl, x4, hg4, hs4, hn4⟩
    have HS4 := Lib.hid (HS3.out.trans (hs4))
    have H4 := Lib.hid hg4
    have HR4 := Lib.hid (HR3.out.fine (hn4.fine (ht := ht + 1) HR3.out.1))
    have c0 := H4.out.c0
    clear hg4 hs4 H3 HS3 HR3
    clear hn4
    have hli := H4.out.lit [t] 3 (by simp)
    obtain ⟨hga, hsa⟩ := H4.out.alloc (.cells ([t].map (Value.int .i64)).toArray 3)
    go_wp2_with fail
    go_at_call 54
    refine (swap_any hga _ _ [t] [] hli (IntsK.nil _ _) (by show 1 ≤ _; have := HR4.out.1; omega) (by simp) ((HR4.out.most hw).le (by omega))).mono ?_
    rintro e w5 ⟨rfl, x5, hg5, hs5, z1, z2, z3, z4⟩
    replace z1 : x5.s.length + 1 = x4.s.length + 0 := z1
    have hf5 : Fine x4 x5 ht 0 := ⟨by have := HR4.out.1; omega, by omega, z3, z4⟩
    have HS5 := Lib.hid (HS4.out.trans (hsa.trans hs5))
    have H5 := Lib.hid hg5
    have HR5 := Lib.hid (HR4.out.fine hf5)
    have c0 := H5.out.c0
    clear hg5 hs5 H4 HS4 HR4
    clear hli hga hsa z1 z2 z3 z4 hf5
    clear c0
    go_wp2
    go_ret
    exact ⟨_, rfl, _, H5.out, HS5.out, HR5.out.le (by omega)⟩
  · rcases h7 with rfl | rfl
    all_goals
      have HM := Lib.hid (memory_any H1.out ht HR1.out.1 ((HR1.out.most hw).le (by omega)))
      go_wp2_with fail
      go_at_call 55
      refine (HM.out).mono ?_
      rintro e w2 ⟨rfl, x2, hg2, hs2, hf2⟩
      have HS2 := Lib.hid (HS1.out.trans (hs2))
      have H2 := Lib.hid hg2
      have HR2 := Lib.hid (HR1.out.fine hf2)
      have c0 := H2.out.c0
      clear hg2 hs2 H1 HS1 HR1
      clear hf2
      go_wp2
      go_ret
      exact ⟨_, rfl, _, H2.out, HS2.out, HR2.out.le (by omega)⟩
  · have HM := Lib.hid (bulk_any H1.out ht HR1.out.1 ((HR1.out.most hw).le (by omega)))
    go_wp2_with fail
    go_at_call 56
    refine (HM.out).mono ?_
    rintro e w2 ⟨rfl, x2, hg2, hs2, hf2⟩
    have HS2 := Lib.hid (HS1.out.trans (hs2))
    have H2 := Lib.hid hg2
    have HR2 := Lib.hid (HR1.out.fine hf2)
    have c0 := H2.out.c0
    clear hg2 hs2 H1 HS1 HR1
    clear hf2
    go_wp2
    go_ret
    exact ⟨_, rfl, _, H2.out, HS2.out, HR2.out.le (by omega)⟩
  · rcases h10 with rfl | rfl
    all_goals
      have HM := Lib.hid (HBLK.out _ _ H1.out HR1.out.1 HR1.out.2.2.1 HR1.out.2.2.2.1 HR1.out.2.2.2.2 (by have := HR1.out.2.1; omega))
      go_wp2_with fail
      go_at_call 57
      refine (HM.out).mono ?_
      rintro e w2 ⟨rfl, x2, hg2, hs2, hf2⟩
      have HS2 := Lib.hid (HS1.out.trans (hs2))
      have H2 := Lib.hid hg2
      have HR2 := Lib.hid (HR1.out.trans hf2)
      have c0 := H2.out.c0
      clear hg2 hs2 H1 HS1 HR1
      clear hf2
      go_wp2
      go_ret
      exact ⟨_, rfl, _, H2.out, HS2.out, HR2.out.le (by omega)⟩
  · have HM := Lib.hid (call_any H1.out ht HR1.out.1 ((HR1.out.most hw).le (by omega)))
    go_wp2_with fail
    go_at_call 58
    refine (HM.out).mono ?_
    rintro e w2 ⟨rfl, x2, hg2, hs2, hf2⟩
    have HS2 := Lib.hid (HS1.out.trans (hs2))
    have H2 := Lib.hid hg2
    have HR2 := Lib.hid (HR1.out.fine hf2)
    have c0 := H2.out.c0
    clear hg2 hs2 H1 HS1 HR1
    clear hf2
    go_wp2
    go_ret
    exact ⟨_, rfl, _, H2.out, HS2.out, HR2.out.le (by omega)⟩
  · have HM := Lib.hid (leave_any H1.out ht HR1.out.1 (by have := HR1.out.2.2.1; have := HNN.out; omega) (by have := HR1.out.2.2.1; have := HNN.out; omega) ((HR1.out.most hw).le (by omega)) HE.out)
    go_wp2_with fail
    go_at_call 59
    refine HM.out.mono ?_
    rintro e w2 ⟨bb, rfl, x2, hg2, hs2, hf2⟩
    have HS2 := Lib.hid (HS1.out.trans (hs2))
    have H2 := Lib.hid hg2
    have HR2 := Lib.hid (HR1.out.fine hf2)
    have c0 := H2.out.c0
    clear hg2 hs2 H1 HS1 HR1
    clear hf2
    clear c0
    go_wp2
    go_ret
    exact ⟨_, rfl, _, H2.out, HS2.out, HR2.out.le (by omega)⟩
  · have HM := Lib.hid (branchIf_any H1.out ht HR1.out.1 (by have := HR1.out.2.2.1; have := HNN.out; omega) (by have := HR1.out.2.2.1; have := HNN.out; omega) ((HR1.out.most hw).le (by omega)))
    go_wp2_with fail
    go_at_call 60
    refine (HM.out).mono ?_
    rintro e w2 ⟨rfl, x2, hg2, hs2, hf2⟩
    have HS2 := Lib.hid (HS1.out.trans (hs2))
    have H2 := Lib.hid hg2
    have HR2 := Lib.hid (HR1.out.fine hf2)
    have c0 := H2.out.c0
    clear hg2 hs2 H1 HS1 HR1
    clear hf2
    go_wp2
    go_ret
    exact ⟨_, rfl, _, H2.out, HS2.out, HR2.out.le (by omega)⟩
  · have hal := fun o => (H1.out.alloc o).1.c0
    go_wp2_with fail
    go_at_call 12
    refine (next_gen (x := x1) (H1.out.alloc _).1 3 (by omega) (by omega)).mono ?_
    rintro e w2 ⟨r2, hr2, rfl, x2, hg2, hs2, hn2⟩
    obtain ⟨t, hv⟩ := lit3 r2 hr2
    have hcv := (H1.out.new_cell _ _ hs2 r2).trans hv
    have HS2 := Lib.hid (HS1.out.trans ((H1.out.alloc _).2.trans hs2))
    have H2 := Lib.hid hg2
    have HR2 := Lib.hid (HR1.out.fine (hn2.fine (ht := ht) HR1.out.1))
    have c0 := H2.out.c0
    clear hg2 hs2 H1 HS1 HR1
    clear hn2 hv hal
    have hli := H2.out.lit [t, t, 127] 3 (by simp)
    obtain ⟨hga, hsa⟩ := H2.out.alloc (.cells ([t, t, 127].map (Value.int .i64)).toArray 3)
    go_wp2_with fail
    go_at_call 53
    refine (need_any hga _ [t, t, 127] hli (by simp) ht HR2.out.1 ((HR2.out.most hw).le (by omega))).mono ?_
    rintro e w3 ⟨rfl, x3, hg3, hs3, hu3, hz3⟩
    replace hs3 := hsa.trans hs3
    replace hz3 : ht + 3 ≤ x3.s.length := hz3
    have HS3 := Lib.hid (HS2.out.trans (hs3))
    have H3 := Lib.hid hg3
    have HR3 := Lib.hid (HR2.out.fine (hu3.fine (ht := ht + 3) hz3))
    have c0 := H3.out.c0
    clear hg3 hs3 H2 HS2 HR2
    clear hli hga hsa hu3 hz3
    clear hcv
    go_wp2_with fail
    go_at_call 17
    refine (put_any H3.out _ _ _ _ _ ⟨[], IntsK.nil _ _⟩ ((HR3.out.most hw).le (by omega))).mono ?_
    rintro e w4 ⟨rfl, x4, hg4, hs4, hn4⟩
    have HS4 := Lib.hid (HS3.out.trans (hs4))
    have H4 := Lib.hid hg4
    have HR4 := Lib.hid (HR3.out.fine (hn4.fine (ht := ht + 3) HR3.out.1))
    have c0 := H4.out.c0
    clear hg4 hs4 H3 HS3 HR3
    clear hn4
    have hli := H4.out.lit [t, t, 127] 3 (by simp)
    obtain ⟨hga, hsa⟩ := H4.out.alloc (.cells ([t, t, 127].map (Value.int .i64)).toArray 3)
    have hlj := hga.lit [t] 3 (by simp)
    rw [show (w4.alloc (.cells ([t, t, 127].map (Value.int .i64)).toArray 3)).heap.size = w4.heap.size + 1 by simp] at hlj
    obtain ⟨hgb, hsb⟩ := hga.alloc (.cells ([t].map (Value.int .i64)).toArray 3)
    go_wp2_with fail
    go_at_call 54
    refine (swap_any hgb _ _ [t, t, 127] [t] (hsb.ints hli) hlj (by show 3 ≤ _; have := HR4.out.1; omega) (by simp) ((HR4.out.most hw).le (by omega))).mono ?_
    rintro e w5 ⟨rfl, x5, hg5, hs5, z1, z2, z3, z4⟩
    replace z1 : x5.s.length + 3 = x4.s.length + 1 := z1
    have hf5 : Fine x4 x5 ht 0 := ⟨by have := HR4.out.1; omega, by omega, z3, z4⟩
    have HS5 := Lib.hid (HS4.out.trans (hsa.trans (hsb.trans hs5)))
    have H5 := Lib.hid hg5
    have HR5 := Lib.hid (HR4.out.fine hf5)
    have c0 := H5.out.c0
    clear hg5 hs5 H4 HS4 HR4
    clear hli hga hsa z1 z2 z3 z4 hf5 hlj hgb hsb
    clear c0
    go_wp2
    go_ret
    exact ⟨_, rfl, _, H5.out, HS5.out, HR5.out.le (by omega)⟩
end Go.Proofs.YtinljaobdnkifaaDoor
namespace Go.Proofs.YtinljaobdnkifaaDoor
open Go.RowKit

theorem body_ok {F : Fx} (hE : ∀ k, ¬ F.E k) (n : Nat) : n ≤ 1000 → ∀ o, BodyOk { F with o := o } ((n : Int) - 1) ∧ OneOk { F with o := o } ((n : Int) - 1) := by
  induction n with
  | zero =>
    intro _ o
    exact ⟨fun w x ht n h hh hn hn8 hl0 hlL => by omega, fun w x ht h hh hn hn8 hl0 hlL => by omega⟩
  | succ n ih =>
    intro hn o
    have hb : ∀ o, BodyOk { F with o := o } (((n + 1 : Nat) : Int) - 1) := fun o => body_of_one (by have h := (ih (by omega) o).2; rwa [show ((n + 1 : Nat) : Int) - 1 - 1 = (n : Int) - 1 by omega]) (by omega)
    exact ⟨hb o, one_of_body (F := { F with o := o }) (fun q' => hb (some q')) hE⟩
/-- body of a maker. -/
theorem body_any {F : Fx} {q : List Nat} {w : World} {x : St} (h : Gen F w x) (hq : F.o = some q) (ht n : Nat) (hh : ht ≤ x.s.length) (hn : 0 < x.nl) (hn8 : x.nl ≤ 8) (hqn : q.length ≤ x.nl) (hl0 : 0 ≤ x.left) (hl : x.left ≤ 900) (hw : wgt x ≤ 800000) (hn1 : n ≤ 1000) (hE : ∀ k, ¬ F.E k) :
    Calls Tryd.prog 15 #[.pointer (some ⟨F.G, 0, none⟩), .int .i64 (ht : Int), .int .i64 (n : Int)] w (GrewPost F w x ht 0) :=
  (body_ok (F := F) hE 1000 (Nat.le_refl _) F.o).1 w x ht n h hh hn hn8 hl0 (by omega) hw ⟨q, hq, hqn⟩ hn1
end Go.Proofs.YtinljaobdnkifaaDoor
namespace Go.Proofs.YtinljaobdnkifaaDoor
open Go.RowKit

theorem alloc_fold (os : List Obj) : ∀ (w : World) (i : Nat) (o : Obj), os[i]? = some o → (os.foldl World.alloc w).heap[w.heap.size + i]? = some o ∧ Below w.heap.size w (os.foldl World.alloc w) ∧ (os.foldl World.alloc w).heap.size = w.heap.size + os.length := by
  induction os with
  | nil => intro w i o h; simp at h
  | cons a os ih =>
    intro w i o h
    have hs : (w.alloc a).heap.size = w.heap.size + 1 := by simp
    have hb : Below w.heap.size w (w.alloc a) := (Below.refl _ _).alloc (Nat.le_refl _) a
    rcases os with _ | ⟨b, os⟩
    · cases i with
      | zero => simp only [List.getElem?_cons_zero, Option.some.injEq] at h; subst h; exact ⟨heap_alloc_new w _, hb, hs⟩
      | succ i => simp at h
    · have h0 := ih (w.alloc a) 0 b rfl
      have hbb : Below w.heap.size w ((b :: os).foldl World.alloc (w.alloc a)) := hb.trans (h0.2.1.mono (by rw [hs]; omega))
      have hsz : ((a :: b :: os).foldl World.alloc w).heap.size = w.heap.size + (a :: b :: os).length := by
        show ((b :: os).foldl World.alloc (w.alloc a)).heap.size = _
        rw [h0.2.2, hs]; simp only [List.length_cons]; omega
      cases i with
      | zero =>
        simp only [List.getElem?_cons_zero, Option.some.injEq] at h
        subst h
        exact ⟨(h0.2.1.block w.heap.size (by rw [hs]; omega)).trans (heap_alloc_new w _), hbb, hsz⟩
      | succ i =>
        have h1 := ih (w.alloc a) i o (by simpa using h)
        rw [hs, show w.heap.size + 1 + i = w.heap.size + (i + 1) by omega] at h1
        exact ⟨h1.1, hbb, hsz⟩

/-- What types lays. -/
def tyObjs (B : Nat) : List Obj := [.cells #[.int .i64 127] 3, .cells #[.int .i64 127] 3, .cells #[.int .i64 127, .int .i64 127] 3, .cells #[.int .i64 127, .int .i64 127] 3, .cells #[.int .i64 126, .int .i64 124] 3, .cells #[.int .i64 124] 3, .cells #[.int .i64 127, .int .i64 126, .int .i64 124] 3, .cells #[.int .i64 127] 3, .cells #[.int .i64 127, .int .i64 126] 3, .cells #[.int .i64 124] 3, .cells #[.int .i64 127] 3, .cells #[.int .i64 127, .int .i64 126] 3, .cells #[.int .i64 126] 3, .cells #[.int .i64 126] 3, .cells #[.slice none 0 0, .slice none 0 0, .slice (some ⟨B, 0, none⟩) 1 1, .slice (some ⟨B + 1, 0, none⟩) 1 1, .slice (some ⟨B + 2, 0, none⟩) 2 2, .slice (some ⟨B + 3, 0, none⟩) 2 2, .slice (some ⟨B + 4, 0, none⟩) 2 2, .slice (some ⟨B + 5, 0, none⟩) 1 1, .slice none 0 0, .slice (some ⟨B + 6, 0, none⟩) 3 3, .slice (some ⟨B + 7, 0, none⟩) 1 1, .slice (some ⟨B + 8, 0, none⟩) 2 2, .slice (some ⟨B + 9, 0, none⟩) 1 1, .slice (some ⟨B + 10, 0, none⟩) 1 1, .slice (some ⟨B + 11, 0, none⟩) 2 2, .slice none 0 0, .slice (some ⟨B + 12, 0, none⟩) 1 1, .slice (some ⟨B + 13, 0, none⟩) 1 1] 35]
/-- The nine types. -/
def nineL : List (List Int × List Int) := [([], []), ([127], [127]), ([127, 127], [127, 127]), ([126, 124], [124]), ([], [127, 126, 124]), ([127], [127, 126]), ([124], [127]), ([127, 126], []), ([126], [126])]

theorem nine_read (w : World) : TypesK (fun k => w.heap.size ≤ k ∧ k < ((tyObjs w.heap.size).foldl World.alloc w).heap.size) ((tyObjs w.heap.size).foldl World.alloc w) (.slice (some ⟨w.heap.size + 14, 0, none⟩) 9 9) nineL := by
  have A := fun i o h => alloc_fold (tyObjs w.heap.size) w i o h
  have hsz := (A 14 _ rfl).2.2
  have C : ∀ (i : Nat) (u : Value), (match (tyObjs w.heap.size)[14]? with | some (Obj.cells cs _ _) => cs[i]? | _ => none) = some u → ((tyObjs w.heap.size).foldl World.alloc w).cell? ⟨w.heap.size + 14, i, none⟩ = some u := fun i u h => by
    have h14 := (A 14 _ rfl).1
    simp only [World.cell?, h14]
    exact h
  have I : ∀ (m : Nat) (l : List Int), (tyObjs w.heap.size)[m]? = some (.cells (l.map (Value.int .i64)).toArray 3) → m < 15 → l.length ≤ 3 → IntsK (fun k => w.heap.size ≤ k ∧ k < ((tyObjs w.heap.size).foldl World.alloc w).heap.size) ((tyObjs w.heap.size).foldl World.alloc w) (.slice (some ⟨w.heap.size + m, 0, none⟩) l.length l.length) l := fun m l h hm hl =>
    ⟨_, _, rfl, by unfold maxLen; omega, (fun h => by cases h), fun _ => ⟨w.heap.size + m, 0, rfl, ⟨by omega, by rw [hsz]; show _ < _ + 15; omega⟩, fun j hj => by
      rw [Nat.zero_add]; simp only [World.cell?, (A m _ h).1]; simp [hj]⟩⟩
  refine ⟨_, 9, rfl, Nat.le_refl _, by unfold maxLen; omega, (fun h => by cases h), fun _ => ⟨w.heap.size + 14, 0, rfl, ⟨by omega, by rw [hsz]; show _ < _ + 15; omega⟩, fun j i hj hi => ?_⟩⟩
  have hj9 : j < 9 := hj
  rcases (show (j = 0 ∨ j = 1 ∨ j = 2 ∨ j = 3 ∨ j = 4 ∨ j = 5 ∨ j = 6 ∨ j = 7 ∨ j = 8) by omega) with rfl | rfl | rfl | rfl | rfl | rfl | rfl | rfl | rfl
  all_goals rcases (show i = 0 ∨ i = 1 by omega) with rfl | rfl
  · exact ⟨_, C 0 _ rfl, IntsK.nil _ _⟩
  · exact ⟨_, C 1 _ rfl, IntsK.nil _ _⟩
  · exact ⟨_, C 2 _ rfl, I 0 [127] rfl (by decide) (by decide)⟩
  · exact ⟨_, C 3 _ rfl, I 1 [127] rfl (by decide) (by decide)⟩
  · exact ⟨_, C 4 _ rfl, I 2 [127, 127] rfl (by decide) (by decide)⟩
  · exact ⟨_, C 5 _ rfl, I 3 [127, 127] rfl (by decide) (by decide)⟩
  · exact ⟨_, C 6 _ rfl, I 4 [126, 124] rfl (by decide) (by decide)⟩
  · exact ⟨_, C 7 _ rfl, I 5 [124] rfl (by decide) (by decide)⟩
  · exact ⟨_, C 8 _ rfl, IntsK.nil _ _⟩
  · exact ⟨_, C 9 _ rfl, I 6 [127, 126, 124] rfl (by decide) (by decide)⟩
  · exact ⟨_, C 10 _ rfl, I 7 [127] rfl (by decide) (by decide)⟩
  · exact ⟨_, C 11 _ rfl, I 8 [127, 126] rfl (by decide) (by decide)⟩
  · exact ⟨_, C 12 _ rfl, I 9 [124] rfl (by decide) (by decide)⟩
  · exact ⟨_, C 13 _ rfl, I 10 [127] rfl (by decide) (by decide)⟩
  · exact ⟨_, C 14 _ rfl, I 11 [127, 126] rfl (by decide) (by decide)⟩
  · exact ⟨_, C 15 _ rfl, IntsK.nil _ _⟩
  · exact ⟨_, C 16 _ rfl, I 12 [126] rfl (by decide) (by decide)⟩
  · exact ⟨_, C 17 _ rfl, I 13 [126] rfl (by decide) (by decide)⟩

set_option maxRecDepth 100000 in
set_option maxHeartbeats 2000000 in
theorem types_any (w : World) : Calls Tryd.prog 11 #[] w (fun e w' => e = .returned (.slice (some ⟨w.heap.size + 14, 0, none⟩) 9 9) ∧ w' = (tyObjs w.heap.size).foldl World.alloc w) := by
  go_enter Tryd.func11, Tryd.ntmps11
  go_wp2
  go_ret
  exact ⟨rfl, rfl⟩
end Go.Proofs.YtinljaobdnkifaaDoor
namespace Go.Proofs.YtinljaobdnkifaaDoor
open Go.RowKit

theorem run_append_both (w : World) (t ty e : TypeId) (z : Value) (size bytes : Nat) (ht : Tryd.prog.underlying t = some (.slice e)) (hinfo : (Tryd.prog.info? e).map (fun i => (i.zero, i.size, i.bytes)) = some (some z, size, bytes))
    (hzs : z.cells.size = size) (hsz : 0 < size) (v : Value) (n : Nat) (xs : List Value) (hown : w.ownsRow 0 e size v n xs) (src : Value) (m : Nat) (news : List Value) (hl : news.length = m * size) (hsrc : News w src m news)
    (h1 : ∀ u ∈ news, u.oneCell' = true) (hnm : n + m ≤ 1000000) (hb : bytes ≤ 1000) :
    ∃ v' w', (Builtin.append_ #[t, t] ty #[v, src]).run Tryd.prog w = .ok v' w' ∧ w'.ownsRow 0 e size v' (n + m) (xs ++ news) ∧ w.grownBy w' v.ownBlock ∧ (v'.ownBlock = v.ownBlock ∨ v'.ownBlock = some w.heap.size) ∧ w'.ownsRow 0 e size v n xs := by
  obtain ⟨v', w', hr, h2, h3, h5⟩ := run_append_row w t ty e z size bytes ht hinfo hzs hsz v n xs hown src m news hl hsrc h1 hnm hb
  refine ⟨v', w', hr, h2, h3, h5, ?_⟩
  obtain ⟨i0, hi, hz0, hz1, hz2⟩ := info_parts hinfo
  rcases hsrc with ⟨rfl, rfl, rfl⟩ | ⟨ad, c, rfl, hcell⟩
  · have hv : v' = v := by
      have e2 : (Builtin.append_ #[t, t] ty #[v, .slice none 0 0]).run Tryd.prog w = .ok v w := by
        rcases hown.2 with ⟨rfl, h⟩ | ⟨g', cap', cur, rfl, _, _, hnc, _⟩
        · simp [Builtin.append_, run_underlying ht, sizeOf, typeInfo, hi, Builtin.lenOf, Builtin.firstCells]
        · simp [Builtin.append_, run_underlying ht, sizeOf, typeInfo, hi, Builtin.lenOf, Builtin.firstCells, hnc, storeCells]
      have e3 := hr.symm.trans e2
      simp only [Result.ok.injEq] at e3
      exact e3.1
    subst hv
    simpa using h2
  · rcases hown.2 with ⟨rfl, h⟩ | ⟨g, cap, cur, rfl, _, hcur, hnc, _, hcs, htake⟩
    · have hx := hown.1
      subst h
      simp only [Nat.zero_mul, List.length_eq_zero_iff] at hx
      subst hx
      exact World.ownsRow_nil _ _ _ _
    · by_cases hroom : n + m ≤ cap
      · have hr2 := run_append_room (P := Tryd.prog) w t ty e i0 ht hi g n cap cur hcur ad m c news (by rw [hz1]; exact hl) hcell h1 hroom (by rw [hz1, hcs, hl, ← Nat.add_mul]; exact Nat.mul_le_mul_right _ hroom)
        have e3 := hr.symm.trans hr2
        simp only [Result.ok.injEq] at e3
        obtain ⟨rfl, -⟩ := e3
        have h4 := owns_cut (m := n) h2 (Nat.le_add_right n m)
        rw [← hown.1, List.take_left] at h4
        exact h4
      · have hb2 : (n + m) * bytes ≤ 1000000 * 1000 := Nat.mul_le_mul hnm hb
        have hr2 := run_append_grow (P := Tryd.prog) w t ty e i0 z ht hi hz0 ⟨g, 0, none⟩ n cap xs (by rw [hz1]; exact hown.1) (hown.cells (g := g) rfl) ad m c news (by rw [hz1]; exact hl) hcell (by omega) (by omega) (growslice_fits (by omega) (by rw [hz2]; omega))
        have e3 := hr.symm.trans hr2
        simp only [Result.ok.injEq] at e3
        obtain ⟨-, rfl⟩ := e3
        exact (World.ownsRow.drew hown).alloc _
theorem wpList_append_both {ops : Array Oper} {rest : List Oper} {o : Oper} {a : Act} {w : World} {Q : Exit → Act → World → Prop} (hw : Region.wanted o (yielded ops a.tmps) = true) (s x : Operand) (t e : TypeId)
    (ho : o.op = .call { callee := .builtin .append, args := #[s, x], argTypes := #[t, t] }) (z : Value) (size bytes : Nat) (ht : Tryd.prog.underlying t = some (.slice e)) (hinfo : (Tryd.prog.info? e).map (fun i => (i.zero, i.size, i.bytes)) = some (some z, size, bytes))
    (hzs : z.cells.size = size) (hsz : 0 < size) (hb : bytes ≤ 1000) (v : Value) (n : Nat) (xs : List Value) (hs : a.eval s = v) (hown : w.ownsRow 0 e size v n xs) (src : Value) (m : Nat) (news : List Value) (hx : a.eval x = src) (hl : news.length = m * size) (hsrc : News w src m news)
    (h1 : ∀ u ∈ news, u.oneCell' = true) (hnm : n + m ≤ 1000000)
    (hk : ∀ v' w', w'.ownsRow 0 e size v' (n + m) (xs ++ news) → w.grownBy w' v.ownBlock → (v'.ownBlock = v.ownBlock ∨ v'.ownBlock = some w.heap.size) → w'.ownsRow 0 e size v n xs → wpList Tryd.prog ops Q rest (a.put o.dst v') w') : wpList Tryd.prog ops Q (o :: rest) a w := by
  refine BigFrame.wpList_want hw fun K hK => ?_
  obtain ⟨v', w', hr, h2, h3, h5, h6⟩ := run_append_both w t o.type e z size bytes ht hinfo hzs hsz v n xs hown src m news hl hsrc h1 hnm hb
  unfold Oper.wp execOp
  simp only [ho, resolve, invoke, builtin, Sem.run_bind, Sem.run_pure, Result.andThen_ok, List.map_toArray, List.map_cons, List.map_nil, hs, hx, hr]
  exact hK _ _ (hk v' w' h2 h3 h5 h6)
end Go.Proofs.YtinljaobdnkifaaDoor
namespace Go.Proofs.YtinljaobdnkifaaDoor
open Go.RowKit

/-! ### Rows of functions, memories, exports -/
def fnCells (f : Int × Value × Value) : List Value := [.int .i64 f.1, f.2.1, f.2.2]
def flatFn (l : List (Int × Value × Value)) : List Value := l.flatMap fnCells
def mmCells (m : Int × Int) : List Value := [.int .i64 m.1, .int .i64 m.2]
def flatMm (l : List (Int × Int)) : List Value := l.flatMap mmCells
def exCells (e : ByteArray × Int × Int) : List Value := [.string e.1, .int .i64 e.2.1, .int .i64 e.2.2]
def flatEx (l : List (ByteArray × Int × Int)) : List Value := l.flatMap exCells
theorem flatFn_snoc (l : List (Int × Value × Value)) (x : Int × Value × Value) : flatFn (l ++ [x]) = flatFn l ++ fnCells x := by simp [flatFn]
theorem flatMm_snoc (l : List (Int × Int)) (x : Int × Int) : flatMm (l ++ [x]) = flatMm l ++ mmCells x := by simp [flatMm]
theorem flatEx_snoc (l : List (ByteArray × Int × Int)) (x : ByteArray × Int × Int) : flatEx (l ++ [x]) = flatEx l ++ exCells x := by simp [flatEx]
theorem flatFn_length (l : List (Int × Value × Value)) : (flatFn l).length = l.length * 3 := by
  induction l with
  | nil => rfl
  | cons x l ih => simp only [flatFn, List.flatMap_cons, List.length_append, fnCells, List.length_cons, List.length_nil] at ih ⊢; omega
theorem flatFn_at (l : List (Int × Value × Value)) : ∀ k (f : Int × Value × Value), l[k]? = some f → (flatFn l)[k * 3]? = some (.int .i64 f.1) ∧ (flatFn l)[k * 3 + 1]? = some f.2.1 ∧ (flatFn l)[k * 3 + 2]? = some f.2.2 := by
  induction l with
  | nil => intro k f h; simp at h
  | cons x l ih =>
    intro k f h
    rw [show flatFn (x :: l) = fnCells x ++ flatFn l from rfl]
    cases k with
    | zero => simp only [List.getElem?_cons_zero, Option.some.injEq] at h; subst h; exact ⟨rfl, rfl, rfl⟩
    | succ k =>
      have h3 : (fnCells x).length = 3 := rfl
      rw [List.getElem?_append_right (by rw [h3]; omega), List.getElem?_append_right (by rw [h3]; omega), List.getElem?_append_right (by rw [h3]; omega), h3, show (k + 1) * 3 - 3 = k * 3 by omega, show (k + 1) * 3 + 1 - 3 = k * 3 + 1 by omega, show (k + 1) * 3 + 2 - 3 = k * 3 + 2 by omega]
      exact ih k f (by simpa using h)
theorem flatFn_set (l : List (Int × Value × Value)) : ∀ k (f : Int × Value × Value) (u : Value), l[k]? = some f → flatFn (l.set k (f.1, f.2.1, u)) = (flatFn l).set (k * 3 + 2) u := by
  induction l with
  | nil => intro k f u h; simp at h
  | cons x l ih =>
    intro k f u h
    cases k with
    | zero => simp only [List.getElem?_cons_zero, Option.some.injEq] at h; subst h; rfl
    | succ k =>
      have h3 : (fnCells x).length = 3 := rfl
      have h1 := ih k f u (by simpa using h)
      rw [List.set_cons_succ, show flatFn (x :: l.set k (f.1, f.2.1, u)) = fnCells x ++ flatFn (l.set k (f.1, f.2.1, u)) from rfl, h1, show flatFn (x :: l) = fnCells x ++ flatFn l from rfl]
      rw [List.set_append_right _ _ (by rw [h3]; omega), h3, show (k + 1) * 3 + 2 - 3 = k * 3 + 2 by omega]

/-! ### The state -/
structure MS where
  m0 : Value
  m1 : Value
  m2 : Value
  m3 : Value
  m4 : Value
  m5 : Value
  m6 : Value
  at_ : Nat
  fs : List (Int × Value × Value)
  ms : List (Int × Int)
  es : List (ByteArray × Int × Int)
/-- What is given: the world at the call, the blocks of the module and the tape, the tape. -/
structure MP where
  W : World
  M : Nat
  T : Nat
  tv : Value
  tl : List Int
def own3 (x : MS) (k : Nat) : Prop := x.m2.ownBlock = some k ∨ x.m3.ownBlock = some k ∨ x.m5.ownBlock = some k
/-- Blocks of the call's own in which nothing turns any more. -/
def still (P : MP) (x : MS) (w : World) (k : Nat) : Prop := (P.W.heap.size ≤ k ∧ k < w.heap.size) ∧ k ≠ P.M ∧ k ≠ P.T ∧ ¬ own3 x k
def mcells (x : MS) : Array Value := #[x.m0, x.m1, x.m2, x.m3, x.m4, x.m5, x.m6, .slice none 0 0]
structure Mk (P : MP) (w : World) (x : MS) : Prop where
  bel : Below P.W.heap.size P.W w
  hM : w.heap[P.M]? = some (.cells (mcells x) 32 (0, 0))
  hT : w.heap[P.T]? = some (.cells #[P.tv, .int .i64 (x.at_ : Int)] 50 (0, 0))
  le : x.at_ ≤ P.tl.length
  tape : IntsK (fun k => k < P.W.heap.size) P.W P.tv P.tl
  new : P.W.heap.size ≤ P.M ∧ P.W.heap.size ≤ P.T ∧ P.M ≠ P.T
  fo : w.ownsRow 0 44 3 x.m2 x.fs.length (flatFn x.fs)
  mo : w.ownsRow 0 57 2 x.m3 x.ms.length (flatMm x.ms)
  eo : w.ownsRow 0 62 3 x.m5 x.es.length (flatEx x.es)
  fp : ∀ g, x.m2.ownBlock = some g → P.W.heap.size ≤ g ∧ g ≠ P.M ∧ g ≠ P.T ∧ x.m3.ownBlock ≠ some g ∧ x.m5.ownBlock ≠ some g
  mp : ∀ g, x.m3.ownBlock = some g → P.W.heap.size ≤ g ∧ g ≠ P.M ∧ g ≠ P.T ∧ x.m5.ownBlock ≠ some g
  ep : ∀ g, x.m5.ownBlock = some g → P.W.heap.size ≤ g ∧ g ≠ P.M ∧ g ≠ P.T
structure MStep (P : MP) (w : World) (x : MS) (w' : World) (x' : MS) : Prop where
  keeps : Keeps (still P x w) w w'
  mono : ∀ k, still P x w k → still P x' w' k
theorem MStep.refl (P : MP) (w : World) (x : MS) : MStep P w x w x := ⟨.refl _ _, fun _ h => h⟩
theorem MStep.trans {P : MP} {a b c : World} {x y z : MS} (h : MStep P a x b y) (k : MStep P b y c z) : MStep P a x c z :=
  ⟨h.keeps.trans (k.keeps.mono h.mono), fun i hi => k.mono i (h.mono i hi)⟩
theorem MStep.ints {P : MP} {w w' : World} {x x' : MS} (h : MStep P w x w' x') {v : Value} {l : List Int} (hv : IntsK (still P x w) w v l) : IntsK (still P x' w') w' v l := hv.keep h.keeps h.mono
theorem MStep.field {P : MP} {w w' : World} {x x' : MS} (h : MStep P w x w' x') {v : Value} {s p : Nat} {l : List Int} (hv : FieldK (still P x w) w v s p l) : FieldK (still P x' w') w' v s p l := hv.keep h.keeps h.mono
theorem MStep.types {P : MP} {w w' : World} {x x' : MS} (h : MStep P w x w' x') {v : Value} {l : List (List Int × List Int)} (hv : TypesK (still P x w) w v l) : TypesK (still P x' w') w' v l := hv.keep h.keeps h.mono
theorem Mk.lts {P : MP} {w : World} {x : MS} (h : Mk P w x) : P.M < w.heap.size ∧ P.T < w.heap.size ∧ (∀ g, own3 x g → g < w.heap.size) := by
  refine ⟨(Array.getElem?_eq_some_iff.1 h.hM).1, (Array.getElem?_eq_some_iff.1 h.hT).1, fun g hg => ?_⟩
  rcases hg with e | e | e
  · exact (h.fo.lt g e).2
  · exact (h.mo.lt g e).2
  · exact (h.eo.lt g e).2
/-- All but the tape stays: the tape goes on, new blocks come. -/
theorem Mk.later {P : MP} {w w' : World} {x : MS} (h : Mk P w x) (hk : Keeps (fun k => k < w.heap.size ∧ k ≠ P.T) w w') (a : Nat) (ha : a ≤ P.tl.length) (hT : w'.heap[P.T]? = some (.cells #[P.tv, .int .i64 (a : Int)] 50 (0, 0))) :
    Mk P w' { x with at_ := a } ∧ MStep P w x w' { x with at_ := a } := by
  obtain ⟨l1, l2, l3⟩ := h.lts
  have hb : Below P.W.heap.size P.W w' := ⟨hk.os.trans h.bel.os, hk.tape.trans h.bel.tape, hk.output.trans h.bel.output, Nat.le_trans h.bel.size hk.size, fun k hk' => (hk.block k ⟨Nat.lt_of_lt_of_le hk' h.bel.size, fun e => by have := h.new.2.1; omega⟩).trans (h.bel.block k hk')⟩
  exact ⟨⟨hb, (hk.block _ ⟨l1, h.new.2.2⟩).trans h.hM, hT, ha, h.tape, h.new, owns_keep h.fo hk fun g hg => ⟨l3 g (.inl hg), (h.fp g hg).2.2.1⟩, owns_keep h.mo hk fun g hg => ⟨l3 g (.inr (.inl hg)), (h.mp g hg).2.2.1⟩, owns_keep h.eo hk fun g hg => ⟨l3 g (.inr (.inr hg)), (h.ep g hg).2.2⟩, h.fp, h.mp, h.ep⟩,
    hk.mono fun k hk' => ⟨hk'.1.2, hk'.2.2.1⟩, fun k hk' => ⟨⟨hk'.1.1, Nat.lt_of_lt_of_le hk'.1.2 hk.size⟩, hk'.2⟩⟩
theorem Mk.below {P : MP} {w w' : World} {x : MS} (h : Mk P w x) (hb : Below w.heap.size w w') : Mk P w' x ∧ MStep P w x w' x :=
  h.later (Keeps.below hb fun _ h => h.1) x.at_ h.le ((hb.block _ h.lts.2.1).trans h.hT)
/-- A field of the module is set, behind what turned one row alone. -/
theorem Mk.store {P : MP} {w w1 : World} {x x' : MS} (h : Mk P w x) (r : Option Nat) (hr : ∀ k, r = some k → own3 x k) (hk : Keeps (fun k => k < w.heap.size ∧ r ≠ some k) w w1) (o : Nat) (u : Value) (hc : (mcells x).setIfInBounds o u = mcells x') (ha : x'.at_ = x.at_)
    (fo : w1.ownsRow 0 44 3 x'.m2 x'.fs.length (flatFn x'.fs)) (mo : w1.ownsRow 0 57 2 x'.m3 x'.ms.length (flatMm x'.ms)) (eo : w1.ownsRow 0 62 3 x'.m5 x'.es.length (flatEx x'.es))
    (fp : ∀ g, x'.m2.ownBlock = some g → P.W.heap.size ≤ g ∧ g ≠ P.M ∧ g ≠ P.T ∧ x'.m3.ownBlock ≠ some g ∧ x'.m5.ownBlock ≠ some g) (mp : ∀ g, x'.m3.ownBlock = some g → P.W.heap.size ≤ g ∧ g ≠ P.M ∧ g ≠ P.T ∧ x'.m5.ownBlock ≠ some g) (ep : ∀ g, x'.m5.ownBlock = some g → P.W.heap.size ≤ g ∧ g ≠ P.M ∧ g ≠ P.T)
    (hn : ∀ k, own3 x' k → own3 x k ∨ w.heap.size ≤ k) : Mk P (w1.setCell ⟨P.M, o, none⟩ u) x' ∧ MStep P w x (w1.setCell ⟨P.M, o, none⟩ u) x' := by
  obtain ⟨l1, l2, l3⟩ := h.lts
  have hrM : r ≠ some P.M := fun e => by
    rcases hr _ e with e | e | e
    · exact (h.fp _ e).2.1 rfl
    · exact (h.mp _ e).2.1 rfl
    · exact (h.ep _ e).2.1 rfl
  have hrT : r ≠ some P.T := fun e => by
    rcases hr _ e with e | e | e
    · exact (h.fp _ e).2.2.1 rfl
    · exact (h.mp _ e).2.2.1 rfl
    · exact (h.ep _ e).2.2 rfl
  have hrW : ∀ k, r = some k → P.W.heap.size ≤ k := fun k e => by
    rcases hr _ e with e | e | e
    · exact (h.fp _ e).1
    · exact (h.mp _ e).1
    · exact (h.ep _ e).1
  have hsz : (w1.setCell ⟨P.M, o, none⟩ u).heap.size = w1.heap.size := by simp [World.setCell]
  have hk0 : Keeps (fun b => b ≠ P.M) w1 (w1.setCell ⟨P.M, o, none⟩ u) := .setCell w1 (fun e => e rfl) u
  have hM : w1.heap[P.M]? = some (.cells (mcells x) 32 (0, 0)) := (hk.block _ ⟨l1, hrM⟩).trans h.hM
  have hb1 : Below P.W.heap.size P.W w1 := ⟨hk.os.trans h.bel.os, hk.tape.trans h.bel.tape, hk.output.trans h.bel.output, Nat.le_trans h.bel.size hk.size, fun k hk' => (hk.block k ⟨Nat.lt_of_lt_of_le hk' h.bel.size, fun e => by have := hrW k e; omega⟩).trans (h.bel.block k hk')⟩
  refine ⟨⟨hb1.setCell (by exact h.new.1) u, by rw [heap_setCell_at w1 P.M o _ _ u hM, hc], (hk0.block _ (fun e => h.new.2.2 e.symm)).trans (by rw [ha]; exact (hk.block _ ⟨l2, hrT⟩).trans h.hT), by rw [ha]; exact h.le, h.tape, h.new,
    owns_keep fo hk0 fun g hg => (fp g hg).2.1, owns_keep mo hk0 fun g hg => (mp g hg).2.1, owns_keep eo hk0 fun g hg => (ep g hg).2.1, fp, mp, ep⟩, ?_, ?_⟩
  · exact (hk.mono fun k hk' => ⟨hk'.1.2, fun e => hk'.2.2.2 (hr k e)⟩).trans (hk0.mono fun k hk' => hk'.2.1)
  · intro k hk'
    refine ⟨⟨hk'.1.1, by rw [hsz]; exact Nat.lt_of_lt_of_le hk'.1.2 hk.size⟩, hk'.2.1, hk'.2.2.1, fun e => ?_⟩
    rcases hn k e with e | e
    · exact hk'.2.2.2 e
    · have := hk'.1.2; omega
theorem new_at {v v' : Value} {N : Nat} (hat : v'.ownBlock = v.ownBlock ∨ v'.ownBlock = some N) {g : Nat} (hg : v'.ownBlock = some g) : v.ownBlock = some g ∨ g = N := by
  rcases hat with h | h
  · exact .inl (h ▸ hg)
  · have := h.symm.trans hg
    simp only [Option.some.injEq] at this
    exact .inr this.symm
/-- What append leaves of all else. -/
theorem grown_keeps {w w1 : World} {o : Obj} {r : Option Nat} (hg : (w.alloc o).grownBy w1 r) : Keeps (fun k => k < w.heap.size ∧ r ≠ some k) w w1 :=
  ((Keeps.alloc w (fun _ h => h) o).mono fun _ h => h.1).trans (.grown hg (fun k hk => by simp; omega) (fun k e hk => hk.2 e))
/-- One memory more. -/
theorem Mk.pushM {P : MP} {w w1 : World} {x : MS} (h : Mk P w x) (o : Obj) (m : Int × Int) {v : Value} {n : Nat} {xs : List Value} (ho : w1.ownsRow 0 57 2 v n xs) (hn : n = x.ms.length + 1) (hx : xs = flatMm x.ms ++ mmCells m) (hg : (w.alloc o).grownBy w1 x.m3.ownBlock) (hat : v.ownBlock = x.m3.ownBlock ∨ v.ownBlock = some (w.alloc o).heap.size) :
    Mk P (w1.setCell ⟨P.M, 3, none⟩ v) { x with m3 := v, ms := x.ms ++ [m] } ∧ MStep P w x (w1.setCell ⟨P.M, 3, none⟩ v) { x with m3 := v, ms := x.ms ++ [m] } := by
  subst hn hx
  obtain ⟨l1, l2, l3⟩ := h.lts
  have hs : (w.alloc o).heap.size = w.heap.size + 1 := by simp
  have hk := grown_keeps hg
  have hW := h.bel.size
  refine h.store x.m3.ownBlock (fun k e => .inr (.inl e)) hk 3 v rfl rfl (owns_keep h.fo hk fun g hg => ⟨l3 g (.inl hg), fun e => (h.fp g hg).2.2.2.1 e⟩) (by rw [List.length_append, flatMm_snoc]; exact ho) (owns_keep h.eo hk fun g hg => ⟨l3 g (.inr (.inr hg)), fun e => (h.mp g e).2.2.2 hg⟩) (fun g hg => ?_) (fun g hg => ?_) h.ep (fun k e => ?_)
  · obtain ⟨a, b, c, d, e⟩ := h.fp g hg
    refine ⟨a, b, c, fun e2 => ?_, e⟩
    rcases new_at hat e2 with e3 | e3
    · exact d e3
    · have := l3 g (.inl hg); omega
  · rcases new_at hat hg with e3 | e3
    · exact h.mp g e3
    · exact ⟨by omega, by omega, by omega, fun e => by have := l3 g (.inr (.inr e)); omega⟩
  · rcases e with e | e | e
    · exact .inl (.inl e)
    · rcases new_at hat e with e3 | e3
      · exact .inl (.inr (.inl e3))
      · exact .inr (by omega)
    · exact .inl (.inr (.inr e))
/-- One export more. -/
theorem Mk.pushE {P : MP} {w w1 : World} {x : MS} (h : Mk P w x) (o : Obj) (m : ByteArray × Int × Int) {v : Value} {n : Nat} {xs : List Value} (ho : w1.ownsRow 0 62 3 v n xs) (hn : n = x.es.length + 1) (hx : xs = flatEx x.es ++ exCells m) (hg : (w.alloc o).grownBy w1 x.m5.ownBlock) (hat : v.ownBlock = x.m5.ownBlock ∨ v.ownBlock = some (w.alloc o).heap.size) :
    Mk P (w1.setCell ⟨P.M, 5, none⟩ v) { x with m5 := v, es := x.es ++ [m] } ∧ MStep P w x (w1.setCell ⟨P.M, 5, none⟩ v) { x with m5 := v, es := x.es ++ [m] } := by
  subst hn hx
  obtain ⟨l1, l2, l3⟩ := h.lts
  have hs : (w.alloc o).heap.size = w.heap.size + 1 := by simp
  have hk := grown_keeps hg
  have hW := h.bel.size
  refine h.store x.m5.ownBlock (fun k e => .inr (.inr e)) hk 5 v rfl rfl (owns_keep h.fo hk fun g hg => ⟨l3 g (.inl hg), fun e => (h.fp g hg).2.2.2.2 e⟩) (owns_keep h.mo hk fun g hg => ⟨l3 g (.inr (.inl hg)), fun e => (h.mp g hg).2.2.2 e⟩) (by rw [List.length_append, flatEx_snoc]; exact ho) (fun g hg => ?_) (fun g hg => ?_) (fun g hg => ?_) (fun k e => ?_)
  · obtain ⟨a, b, c, d, e⟩ := h.fp g hg
    refine ⟨a, b, c, d, fun e2 => ?_⟩
    rcases new_at hat e2 with e3 | e3
    · exact e e3
    · have := l3 g (.inl hg); omega
  · obtain ⟨a, b, c, d⟩ := h.mp g hg
    refine ⟨a, b, c, fun e2 => ?_⟩
    rcases new_at hat e2 with e3 | e3
    · exact d e3
    · have := l3 g (.inr (.inl hg)); omega
  · rcases new_at hat hg with e3 | e3
    · exact h.ep g e3
    · exact ⟨by omega, by omega, by omega⟩
  · rcases e with e | e | e
    · exact .inl (.inl e)
    · exact .inl (.inr (.inl e))
    · rcases new_at hat e with e3 | e3
      · exact .inl (.inr (.inr e3))
      · exact .inr (by omega)
/-- One function more. -/
theorem Mk.pushF {P : MP} {w w1 : World} {x : MS} (h : Mk P w x) (o : Obj) (m : Int × Value × Value) {v : Value} {n : Nat} {xs : List Value} (ho : w1.ownsRow 0 44 3 v n xs) (hn : n = x.fs.length + 1) (hx : xs = flatFn x.fs ++ fnCells m) (hg : (w.alloc o).grownBy w1 x.m2.ownBlock) (hat : v.ownBlock = x.m2.ownBlock ∨ v.ownBlock = some (w.alloc o).heap.size) :
    Mk P (w1.setCell ⟨P.M, 2, none⟩ v) { x with m2 := v, fs := x.fs ++ [m] } ∧ MStep P w x (w1.setCell ⟨P.M, 2, none⟩ v) { x with m2 := v, fs := x.fs ++ [m] } := by
  subst hn hx
  obtain ⟨l1, l2, l3⟩ := h.lts
  have hs : (w.alloc o).heap.size = w.heap.size + 1 := by simp
  have hk := grown_keeps hg
  have hW := h.bel.size
  refine h.store x.m2.ownBlock (fun k e => .inl e) hk 2 v rfl rfl (by rw [List.length_append, flatFn_snoc]; exact ho) (owns_keep h.mo hk fun g hg => ⟨l3 g (.inr (.inl hg)), fun e => (h.fp g e).2.2.2.1 hg⟩) (owns_keep h.eo hk fun g hg => ⟨l3 g (.inr (.inr hg)), fun e => (h.fp g e).2.2.2.2 hg⟩) (fun g hg => ?_) h.mp h.ep (fun k e => ?_)
  · rcases new_at hat hg with e3 | e3
    · exact h.fp g e3
    · exact ⟨by omega, by omega, by omega, fun e => by have := l3 g (.inr (.inl e)); omega, fun e => by have := l3 g (.inr (.inr e)); omega⟩
  · rcases e with e | e | e
    · rcases new_at hat e with e3 | e3
      · exact .inl (.inl e3)
      · exact .inr (by omega)
    · exact .inl (.inr (.inl e))
    · exact .inl (.inr (.inr e))
/-- The imports, the globals, the datas are set. -/
theorem Mk.set1 {P : MP} {w : World} {x : MS} (h : Mk P w x) (u : Value) : Mk P (w.setCell ⟨P.M, 1, none⟩ u) { x with m1 := u } ∧ MStep P w x (w.setCell ⟨P.M, 1, none⟩ u) { x with m1 := u } :=
  h.store none (fun _ e => by cases e) (.refl _ _) 1 u rfl rfl h.fo h.mo h.eo h.fp h.mp h.ep fun _ e => .inl e
theorem Mk.set4 {P : MP} {w : World} {x : MS} (h : Mk P w x) (u : Value) : Mk P (w.setCell ⟨P.M, 4, none⟩ u) { x with m4 := u } ∧ MStep P w x (w.setCell ⟨P.M, 4, none⟩ u) { x with m4 := u } :=
  h.store none (fun _ e => by cases e) (.refl _ _) 4 u rfl rfl h.fo h.mo h.eo h.fp h.mp h.ep fun _ e => .inl e
theorem Mk.set6 {P : MP} {w : World} {x : MS} (h : Mk P w x) (u : Value) : Mk P (w.setCell ⟨P.M, 6, none⟩ u) { x with m6 := u } ∧ MStep P w x (w.setCell ⟨P.M, 6, none⟩ u) { x with m6 := u } :=
  h.store none (fun _ e => by cases e) (.refl _ _) 6 u rfl rfl h.fo h.mo h.eo h.fp h.mp h.ep fun _ e => .inl e
/-- A function's code is set. -/
theorem Mk.code {P : MP} {w : World} {x : MS} (h : Mk P w x) {g c j : Nat} (hm : x.m2 = .slice (some ⟨g, 0, none⟩) x.fs.length c) {f : Int × Value × Value} (hf : x.fs[j]? = some f) (u : Value) :
    Mk P (w.setCell ⟨g, j * 3 + 2, none⟩ u) { x with fs := x.fs.set j (f.1, f.2.1, u) } ∧ MStep P w x (w.setCell ⟨g, j * 3 + 2, none⟩ u) { x with fs := x.fs.set j (f.1, f.2.1, u) } := by
  obtain ⟨l1, l2, l3⟩ := h.lts
  have hg2 : x.m2.ownBlock = some g := by rw [hm]; rfl
  obtain ⟨p1, p2, p3, p4, p5⟩ := h.fp g hg2
  have hfo := h.fo
  rw [hm] at hfo
  have hst := (hfo.stored (j * 3 + 2) u).1
  have hk0 : Keeps (fun b => b ≠ g) w (w.setCell ⟨g, j * 3 + 2, none⟩ u) := .setCell w (fun e => e rfl) u
  have hsz : (w.setCell ⟨g, j * 3 + 2, none⟩ u).heap.size = w.heap.size := by simp [World.setCell]
  refine ⟨⟨h.bel.setCell (by exact p1) u, (hk0.block _ (fun e => p2 e.symm)).trans h.hM, (hk0.block _ (fun e => p3 e.symm)).trans h.hT, h.le, h.tape, h.new, ?_, owns_keep h.mo hk0 fun k hk e => p4 (e ▸ hk), owns_keep h.eo hk0 fun k hk e => p5 (e ▸ hk), h.fp, h.mp, h.ep⟩, hk0.mono fun k hk e => hk.2.2.2 (.inl (e ▸ hg2)), fun k hk => ⟨⟨hk.1.1, by rw [hsz]; exact hk.1.2⟩, hk.2⟩⟩
  rw [hm, List.length_set, flatFn_set x.fs j f u hf]
  exact hst
end Go.Proofs.YtinljaobdnkifaaDoor
namespace Go.Proofs.YtinljaobdnkifaaDoor
open Go.RowKit

/-- Next upon the tape of the module's maker. -/
theorem mk_next {P : MP} {w : World} {x : MS} (h : Mk P w x) (n : Nat) (h0 : 0 < n) (hn : n ≤ 1073741824) :
    Calls Tryd.prog 12 #[.pointer (some ⟨P.T, 0, none⟩), .int .i64 (n : Int)] w fun e w' => ∃ r : Nat, r < n ∧ e = .returned (.int .i64 (r : Int)) ∧ ∃ a, Mk P w' { x with at_ := a } ∧ MStep P w x w' { x with at_ := a } :=
  (next_any (fun k => k < P.W.heap.size) P.T P.tv P.tl x.at_ n w h.hT (h.tape.keep (Keeps.below h.bel fun _ h => h) fun _ h => h) (fun hk => by have := h.new.2.1; omega) h.le h0 hn).mono fun _ _ ⟨r, a, he, hr, hk, ht⟩ =>
    ⟨r, hr, he, a, h.later ⟨ht.os, ht.tape, ht.output, by rw [ht.size]; exact Nat.le_refl _, fun k hk => ht.block k hk.2⟩ a hk ht.at_⟩
theorem Mk.cell {P : MP} {w : World} {x : MS} (h : Mk P w x) (o : Nat) : w.cell? ⟨P.M, o, none⟩ = (mcells x)[o]? := by simp [World.cell?, h.hM]
theorem Mk.frozen {P : MP} {w : World} {x : MS} (h : Mk P w x) (o : Nat) : w.frozen? ⟨P.M, o, none⟩ = false := by simp [World.frozen?, h.hM]
theorem Mk.drew {P : MP} {w : World} {x : MS} (h : Mk P w x) : Mk P w.drew x ∧ MStep P w x w.drew x := h.below ((Below.refl _ _).drew)
/-- What a push wants of the module's struct. -/
theorem Mk.pushf {P : MP} {w : World} {x : MS} (h : Mk P w x) (ob : Obj) (r : Option Nat) (hr : ∀ k, r = some k → own3 x k) (o : Nat) : (w.alloc ob).cell? ⟨P.M, o, none⟩ = (mcells x)[o]? ∧ ∀ w2, (w.alloc ob).grownBy w2 r → w2.cell? ⟨P.M, o, none⟩ = (mcells x)[o]? ∧ w2.frozen? ⟨P.M, o, none⟩ = false := by
  obtain ⟨l1, _, _⟩ := h.lts
  have hrM : r ≠ some P.M := fun e => by
    rcases hr _ e with e | e | e
    · exact (h.fp _ e).2.1 rfl
    · exact (h.mp _ e).2.1 rfl
    · exact (h.ep _ e).2.1 rfl
  refine ⟨by rw [World.cell?_alloc_lt _ _ _ (by exact l1)]; exact h.cell o, fun w2 hgr => ?_⟩
  have hb := (grown_keeps hgr).block P.M ⟨l1, hrM⟩
  exact ⟨(World.cell?_of_block (w := w) (a := ⟨P.M, o, none⟩) hb).trans (h.cell o), (World.frozen?_of_block (w := w) (a := ⟨P.M, o, none⟩) hb).trans (h.frozen o)⟩
def nil0 : Value := .slice none 0 0
def zeroM : Array Value := #[.slice none 0 0, .slice none 0 0, .slice none 0 0, .slice none 0 0, .slice none 0 0, .slice none 0 0, .slice none 0 0, .slice none 0 0]
/-- How the maker begins. -/
theorem mk_start (w : World) (tv : Value) (tl : List Int) (htl : IntsK (fun k => k < w.heap.size) w tv tl) (W1 W2 : World) (hW1 : W1 = (w.alloc (.cells zeroM 32)).alloc (.cells #[tv, .int .i64 0] 50)) (hW2 : W2 = (tyObjs W1.heap.size).foldl World.alloc W1) (x : MS)
    (hx : x = ⟨.slice (some ⟨W1.heap.size + 14, 0, none⟩) 9 9, .slice none 0 0, .slice none 0 0, .slice none 0 0, .slice none 0 0, .slice none 0 0, .slice none 0 0, 0, [], [], []⟩) (P : MP) (hP : P = ⟨w.alloc (.cells zeroM 32), W2.heap.size, w.heap.size + 1, tv, tl⟩) :
    Mk P (W2.alloc (.cells (mcells x) 32)) x ∧ TypesK (still P x (W2.alloc (.cells (mcells x) 32))) (W2.alloc (.cells (mcells x) 32)) x.m0 nineL := by
  have s0 : (w.alloc (.cells zeroM 32)).heap.size = w.heap.size + 1 := by simp
  have s1 : W1.heap.size = w.heap.size + 2 := by rw [hW1]; simp
  obtain ⟨_, hb2, s2⟩ := alloc_fold (tyObjs W1.heap.size) W1 0 _ rfl
  rw [← hW2] at hb2 s2
  have s2' : W2.heap.size = w.heap.size + 17 := by rw [s2, s1]; rfl
  have hb1 : Below (w.alloc (.cells zeroM 32)).heap.size (w.alloc (.cells zeroM 32)) W1 := by rw [hW1]; exact (Below.refl _ _).alloc (Nat.le_refl _) _
  have hb3 : Below W2.heap.size W2 (W2.alloc (.cells (mcells x) 32)) := (Below.refl _ _).alloc (Nat.le_refl _) _
  have hb13 : Below W1.heap.size W1 (W2.alloc (.cells (mcells x) 32)) := hb2.trans (hb3.mono (by omega))
  have s3 : (W2.alloc (.cells (mcells x) 32)).heap.size = w.heap.size + 18 := by simp [s2']
  have hT : W1.heap[w.heap.size + 1]? = some (.cells #[tv, .int .i64 0] 50 (0, 0)) := by
    have := heap_alloc_new (w.alloc (.cells zeroM 32)) (.cells #[tv, .int .i64 0] 50)
    rw [s0] at this
    rw [hW1]; exact this
  have hn : ∀ k, ¬ own3 x k := fun k => by rw [hx]; rintro (e | e | e) <;> cases e
  have htl' : IntsK (fun k => k < (w.alloc (.cells zeroM 32)).heap.size) (w.alloc (.cells zeroM 32)) tv tl := htl.keep (Keeps.alloc w (fun _ h => h) _) fun k hk => by rw [s0]; omega
  subst hP
  refine ⟨⟨hb1.trans (hb13.mono (by rw [s0]; omega)), heap_alloc_new W2 _, (hb13.block (w.heap.size + 1) (by omega)).trans (by rw [hx]; exact hT), by rw [hx]; exact Nat.zero_le _, htl', ⟨by show _ ≤ W2.heap.size; rw [s0]; omega, by show _ ≤ w.heap.size + 1; rw [s0]; exact Nat.le_refl _, by show W2.heap.size ≠ w.heap.size + 1; omega⟩,
    by rw [hx]; exact World.ownsRow_nil _ _ _ _, by rw [hx]; exact World.ownsRow_nil _ _ _ _, by rw [hx]; exact World.ownsRow_nil _ _ _ _, fun g hg => absurd (Or.inl hg) (hn g), fun g hg => absurd (Or.inr (Or.inl hg)) (hn g), fun g hg => absurd (Or.inr (Or.inr hg)) (hn g)⟩, ?_⟩
  have ht := nine_read W1
  rw [← hW2] at ht
  rw [show x.m0 = .slice (some ⟨W1.heap.size + 14, 0, none⟩) 9 9 by rw [hx]]
  exact ht.keep (Keeps.below hb3 fun k hk => hk.2) fun k hk => ⟨⟨by show (w.alloc _).heap.size ≤ k; rw [s0]; omega, by omega⟩, by show k ≠ W2.heap.size; omega, by show k ≠ w.heap.size + 1; omega, hn _⟩
/-- What turns still blocks alone leaves the module as it is. -/
theorem Mk.beside {P : MP} {w w' : World} {x : MS} (h : Mk P w x) (J : Nat → Prop) (hJ : ∀ k, J k → still P x w k) (hk : Keeps (fun k => k < w.heap.size ∧ ¬ J k) w w') : Mk P w' x := by
  obtain ⟨l1, l2, l3⟩ := h.lts
  have hb : Below P.W.heap.size P.W w' := ⟨hk.os.trans h.bel.os, hk.tape.trans h.bel.tape, hk.output.trans h.bel.output, Nat.le_trans h.bel.size hk.size, fun k hk' => (hk.block k ⟨Nat.lt_of_lt_of_le hk' h.bel.size, fun e => by have := (hJ k e).1.1; omega⟩).trans (h.bel.block k hk')⟩
  have hrow : ∀ g, own3 x g → g < w.heap.size ∧ ¬ J g := fun g hg => ⟨l3 g hg, fun e => (hJ g e).2.2.2 hg⟩
  exact ⟨hb, (hk.block _ ⟨l1, fun e => (hJ _ e).2.1 rfl⟩).trans h.hM, (hk.block _ ⟨l2, fun e => (hJ _ e).2.2.1 rfl⟩).trans h.hT, h.le, h.tape, h.new, owns_keep h.fo hk fun g hg => hrow g (.inl hg), owns_keep h.mo hk fun g hg => hrow g (.inr (.inl hg)), owns_keep h.eo hk fun g hg => hrow g (.inr (.inr hg)), h.fp, h.mp, h.ep⟩
/-- A function's struct beside the module, while its locals are made. -/
structure Inn (P : MP) (W : World) (z : MS) (ty : Int) (w : World) (a : Nat) (lv : Value) (ll : List Int) : Prop where
  md : Mk P w { z with at_ := a }
  st : MStep P W z w { z with at_ := a }
  f9 : w.heap[W.heap.size]? = some (.cells #[.int .i64 ty, lv, .slice none 0 0] 44 (0, 0))
  ow : w.ownsRow 0 3 1 lv ll.length (ll.map (Value.int .i64))
  lp : ∀ g, lv.ownBlock = some g → W.heap.size < g
  base : (∀ k, own3 z k → k < W.heap.size) ∧ P.M < W.heap.size ∧ P.T < W.heap.size ∧ P.W.heap.size ≤ W.heap.size
theorem Inn.stl {P : MP} {W w : World} {z : MS} {ty : Int} {a : Nat} {lv : Value} {ll : List Int} (h : Inn P W z ty w a lv ll) {k : Nat} (h1 : W.heap.size ≤ k) (h2 : k < w.heap.size) (a' : Nat) : still P { z with at_ := a' } w k := by
  obtain ⟨b1, b2, b3, b4⟩ := h.base
  exact ⟨⟨by omega, h2⟩, by omega, by omega, fun e => by have := b1 k e; omega⟩
theorem Inn.f9lt {P : MP} {W w : World} {z : MS} {ty : Int} {a : Nat} {lv : Value} {ll : List Int} (h : Inn P W z ty w a lv ll) : W.heap.size < w.heap.size := (Array.getElem?_eq_some_iff.1 h.f9).1
/-- Next goes by. -/
theorem Inn.next {P : MP} {W w w' : World} {z : MS} {ty : Int} {a a' : Nat} {lv : Value} {ll : List Int} (h : Inn P W z ty w a lv ll) (hm : Mk P w' { z with at_ := a' }) (hs : MStep P w { z with at_ := a } w' { z with at_ := a' }) : Inn P W z ty w' a' lv ll :=
  ⟨hm, h.st.trans hs, (hs.keeps.block _ (h.stl (Nat.le_refl _) h.f9lt a)).trans h.f9, owns_keep h.ow hs.keeps fun g hg => h.stl (Nat.le_of_lt (h.lp g hg)) (h.ow.lt g hg).2 a, h.lp, h.base⟩
theorem Inn.below {P : MP} {W w w' : World} {z : MS} {ty : Int} {a : Nat} {lv : Value} {ll : List Int} (h : Inn P W z ty w a lv ll) (hb : Below w.heap.size w w') : Inn P W z ty w' a lv ll := by
  obtain ⟨h1, h2⟩ := h.md.below hb
  exact h.next h1 h2
theorem Inn.cell1 {P : MP} {W w : World} {z : MS} {ty : Int} {a : Nat} {lv : Value} {ll : List Int} (h : Inn P W z ty w a lv ll) : w.cell? ⟨W.heap.size, 1, none⟩ = some lv ∧ w.frozen? ⟨W.heap.size, 1, none⟩ = false := by simp [World.cell?, World.frozen?, h.f9]
theorem Inn.pushf {P : MP} {W w : World} {z : MS} {ty : Int} {a : Nat} {lv : Value} {ll : List Int} (h : Inn P W z ty w a lv ll) {w0 w1 : World} (hb0 : Below w.heap.size w w0) {ob : Obj} (hg : (w0.alloc ob).grownBy w1 lv.ownBlock) : w1.cell? ⟨W.heap.size, 1, none⟩ = some lv ∧ w1.frozen? ⟨W.heap.size, 1, none⟩ = false := by
  have hb := (grown_keeps hg).block W.heap.size ⟨Nat.lt_of_lt_of_le h.f9lt hb0.size, fun e => by have := h.lp _ e; omega⟩
  have h9 := (h.below hb0).cell1
  exact ⟨(World.cell?_of_block (w := w0) (a := ⟨W.heap.size, 1, none⟩) hb).trans h9.1, (World.frozen?_of_block (w := w0) (a := ⟨W.heap.size, 1, none⟩) hb).trans h9.2⟩
/-- One local more. -/
theorem Inn.push {P : MP} {W w w1 : World} {z : MS} {ty : Int} {a : Nat} {lv : Value} {ll : List Int} (h : Inn P W z ty w a lv ll) {w0 : World} (hb0 : Below w.heap.size w w0) (ob : Obj) (t : Int) {v : Value} {n : Nat} {xs : List Value} (ho : w1.ownsRow 0 3 1 v n xs) (hn : n = ll.length + 1) (hx : xs = ll.map (Value.int .i64) ++ [.int .i64 t]) (hg : (w0.alloc ob).grownBy w1 lv.ownBlock)
    (hat : v.ownBlock = lv.ownBlock ∨ v.ownBlock = some (w0.alloc ob).heap.size) : Inn P W z ty (w1.setCell ⟨W.heap.size, 1, none⟩ v) a v (ll ++ [t]) := by
  subst hn hx
  have h9 := h.f9lt
  have hsa : (w0.alloc ob).heap.size = w0.heap.size + 1 := by simp
  have hs0 := hb0.size
  have hkg := grown_keeps hg
  have hk1 : Keeps (fun k => k < w.heap.size ∧ lv.ownBlock ≠ some k) w w1 := ((Keeps.below hb0 fun _ h => h) : Keeps (fun k => k < w.heap.size) w w0).mono (fun _ h => h.1) |>.trans (hkg.mono fun k hk => ⟨Nat.lt_of_lt_of_le hk.1 hs0, hk.2⟩)
  have hk0 : Keeps (fun b => b ≠ W.heap.size) w1 (w1.setCell ⟨W.heap.size, 1, none⟩ v) := .setCell w1 (fun e => e rfl) v
  have hf1 : w1.heap[W.heap.size]? = some (.cells #[.int .i64 ty, lv, .slice none 0 0] 44 (0, 0)) := (hk1.block _ ⟨h9, fun e => by have := h.lp _ e; omega⟩).trans h.f9
  have hvn : ∀ g, v.ownBlock = some g → W.heap.size < g := fun g hg' => by
    rcases new_at hat hg' with e | e
    · exact h.lp g e
    · omega
  have hkj : Keeps (fun k => k < w.heap.size ∧ ¬ (k = W.heap.size ∨ lv.ownBlock = some k)) w (w1.setCell ⟨W.heap.size, 1, none⟩ v) := (hk1.mono fun k hk => ⟨hk.1, fun e => hk.2 (.inr e)⟩).trans (hk0.mono fun k hk e => hk.2 (.inl e))
  have hmd := h.md.beside (fun k => k = W.heap.size ∨ lv.ownBlock = some k) (fun k hk => by
    rcases hk with rfl | hk
    · exact h.stl (Nat.le_refl _) h9 a
    · exact h.stl (Nat.le_of_lt (h.lp k hk)) (h.ow.lt k hk).2 a) hkj
  refine ⟨hmd, ⟨h.st.keeps.trans (hkj.mono fun k hk => ⟨(h.st.mono k hk).1.2, ?_⟩), fun k hk => ⟨⟨hk.1.1, Nat.lt_of_lt_of_le (h.st.mono k hk).1.2 hkj.size⟩, (h.st.mono k hk).2⟩⟩, ?_, ?_, hvn, h.base⟩
  · rintro (e | e)
    · have := hk.1.2; omega
    · have h1 := h.lp k e; have := hk.1.2; omega
  · rw [heap_setCell_at w1 W.heap.size 1 _ _ v hf1]; rfl
  · rw [List.length_append, List.map_append]
    exact owns_keep ho hk0 fun g hg' => by have := hvn g hg'; omega
/-- A literal of structs in a new block. -/
theorem field_lit {P : MP} {w : World} {x : MS} (h : Mk P w x) (cs : Array Value) (t : TypeId) (n size p : Nat) (l : List Int) (hl : l.length = n) (h0 : 0 < n) (hn : n ≤ 100) (hc : ∀ j i, j < n → i < size → ∃ u, cs[j * size + i]? = some u ∧ (i = p → u = .int .i64 (l.getD j 0))) :
    FieldK (still P x (w.alloc (.cells cs t))) (w.alloc (.cells cs t)) (.slice (some ⟨w.heap.size, 0, none⟩) n n) size p l := by
  obtain ⟨l1, l2, l3⟩ := h.lts
  have hw := h.bel.size
  refine ⟨_, n, by rw [hl], by omega, by unfold maxLen; omega, (fun h => by cases h), fun _ => ⟨w.heap.size, 0, rfl, ⟨⟨hw, by simp⟩, by omega, by omega, fun e => by have := l3 _ e; omega⟩, fun j i hj hi => ?_⟩⟩
  obtain ⟨u, h1, h2⟩ := hc j i (by omega) hi
  exact ⟨u, by rw [Nat.zero_add, World.cell?_alloc_new]; exact h1, h2⟩
end Go.Proofs.YtinljaobdnkifaaDoor
namespace Go.Proofs.YtinljaobdnkifaaDoor
open Go.RowKit

theorem len_owned {w : World} {base size : Nat} {e : TypeId} {v : Value} {n : Nat} {xs : List Value} (h : w.ownsRow base e size v n xs) : LenK v n := by
  rcases h.2 with ⟨rfl, h0⟩ | ⟨g, cap, cur, rfl, _, _, h1, h2, _⟩
  · exact ⟨none, 0, by rw [h0], by omega, Nat.zero_le _⟩
  · exact ⟨_, cap, rfl, h1, h2⟩
/-- The functions' types, out of their row. -/
theorem Mk.types_of {P : MP} {w : World} {x : MS} (h : Mk P w x) (K : Nat → Prop) (hK : ∀ g, x.m2.ownBlock = some g → K g) : FieldK K w x.m2 3 0 (x.fs.map (·.1)) := by
  rcases h.fo.2 with ⟨h1, h0⟩ | ⟨g, cap, cur, h1, _, _, h2, h3, _⟩
  · exact ⟨none, 0, by rw [h1, List.length_map, h0], by rw [List.length_map, h0]; exact Nat.le_refl _, Nat.zero_le _, fun _ => rfl, fun hl => by rw [List.length_map] at hl; omega⟩
  · have hfo := h.fo
    rw [h1] at hfo
    refine ⟨_, cap, by rw [h1, List.length_map], by rw [List.length_map]; exact h2, h3, (fun h => by cases h), fun _ => ⟨g, 0, rfl, hK g (by rw [h1]; rfl), fun j i hj hi => ?_⟩⟩
    rw [List.length_map] at hj
    obtain ⟨f0, f1, f2⟩ := flatFn_at x.fs j x.fs[j] (List.getElem?_eq_getElem hj)
    rw [Nat.zero_add]
    rcases (show i = 0 ∨ i = 1 ∨ i = 2 by omega) with rfl | rfl | rfl
    · refine ⟨_, by rw [hfo.cellAt _ (by omega), Nat.add_zero]; exact f0, fun _ => ?_⟩
      rw [List.getD_eq_getElem?_getD, List.getElem?_map, List.getElem?_eq_getElem hj]; rfl
    · exact ⟨_, by rw [hfo.cellAt _ (by omega)]; exact f1, fun h => by omega⟩
    · exact ⟨_, by rw [hfo.cellAt _ (by omega)]; exact f2, fun h => by omega⟩
/-- The maker's parameters. -/
def fxOf (P : MP) (x : MS) (G : Nat) (lov : Value) (lo : List Int) (pv rv : Value) (ro : List Int) (nd : Nat) : Fx :=
  ⟨G, P.T, P.tv, P.tl, x.m0, x.m1, x.m2, x.m3, x.m4, x.m5, x.m6, .slice none 0 0, lov, lo, pv, rv, ro, nineL, [1, 7], x.fs.map (·.1), [127, 126, 124, 127], x.ms.length, nd, some [], fun _ => False⟩
def stOf (lv : Value) (a : Nat) : St := ⟨.slice none 0 0, lv, .slice none 0 0, a, [], 1, [], 40⟩
theorem gen_start {P : MP} {w4 : World} {x : MS} (h : Mk P w4 x) (G : Nat) (lov : Value) (lo : List Int) (pv rv : Value) (ro : List Int) (nd : Nat) (lv : Value)
    (hG : w4.heap[G]? = some (.cells (gcells (fxOf P x G lov lo pv rv ro nd) (stOf lv x.at_)) 66 (0, 0))) (hGn : G ≠ P.M ∧ G ≠ P.T ∧ ¬ own3 x G ∧ P.W.heap.size ≤ G)
    (hlo : IntsK (fun k => k < w4.heap.size ∧ k ≠ G ∧ k ≠ P.T) w4 lov lo) (hlo1 : lo.length ≤ 100) (hro : IntsK (fun k => k < w4.heap.size ∧ k ≠ G ∧ k ≠ P.T) w4 rv ro) (hro1 : ro.length ≤ 3)
    (hts : TypesK (fun k => k < w4.heap.size ∧ k ≠ G ∧ k ≠ P.T) w4 x.m0 nineL) (his : FieldK (fun k => k < w4.heap.size ∧ k ≠ G ∧ k ≠ P.T) w4 x.m1 3 2 [1, 7]) (hgs : FieldK (fun k => k < w4.heap.size ∧ k ≠ G ∧ k ≠ P.T) w4 x.m4 3 0 [127, 126, 124, 127])
    (hfs : 0 < x.fs.length ∧ x.fs.length ≤ 4 ∧ ∀ f ∈ x.fs, 0 ≤ f.1 ∧ f.1 < 9) (hms : x.ms.length ≤ 3) (hds : LenK x.m6 nd ∧ nd ≤ 2 ∧ (0 < x.ms.length → nd = 2))
    (hlab : LabsK (fun k => k < w4.heap.size ∧ k ≠ G ∧ k ≠ P.T) w4 lv 1) :
    Gen (fxOf P x G lov lo pv rv ro nd) w4 (stOf lv x.at_) := by
  have hnp : ∀ k, priv (fxOf P x G lov lo pv rv ro nd) (stOf lv x.at_) k → k = G ∨ k = P.T := fun k hk => by
    rcases hk with e | e | e | e
    · exact .inl e
    · exact .inr e
    · cases e
    · cases e
  have hrf : ∀ k, k < w4.heap.size → k ≠ G → k ≠ P.T → rfree (fxOf P x G lov lo pv rv ro nd) w4 (stOf lv x.at_) k := fun k h1 h2 h3 => ⟨⟨h1, fun e => (hnp k e).elim h2 h3⟩, fun e => e⟩
  have hst : ∀ k, (k < w4.heap.size ∧ k ≠ G ∧ k ≠ P.T) → rfree (fxOf P x G lov lo pv rv ro nd) w4 (stOf lv x.at_) k := fun k hk => hrf k hk.1 hk.2.1 hk.2.2
  refine ⟨hG, h.hT, hGn.2.1, World.ownsRow_nil _ _ _ _, (fun g e => by cases e), World.ownsRow_nil _ _ _ _, (fun g e => by cases e), h.le, ?_⟩
  refine ⟨?_, ⟨hlo.keep (.refl _ _) hst, hlo1⟩, ⟨hro.keep (.refl _ _) hst, hro1⟩, ⟨hts.keep (.refl _ _) hst, rfl, (by decide : ∀ t ∈ nineL, t.1.length ≤ 3 ∧ t.2.length ≤ 3)⟩, ⟨his.keep (.refl _ _) hst, rfl, (by decide : ∀ t ∈ ([1, 7] : List Int), 0 ≤ t ∧ t < 9)⟩, ⟨?_, ⟨?_, ?_⟩, ?_⟩, ⟨?_, hms⟩, ⟨hgs.keep (.refl _ _) hst, rfl⟩, hds.1 |> fun h => ⟨h, hds.2⟩, hlab.keep (.refl _ _) (fun k hk => hrf k hk.1 hk.2.1 hk.2.2), (fun iv hiv => by cases hiv), fun q hq => ?_⟩
  · exact h.tape.keep (Keeps.below h.bel fun _ h => h) fun k hk => hrf k (Nat.lt_of_lt_of_le hk h.bel.size) (fun e => by have := hGn.2.2.2; omega) (fun e => by have := h.new.2.1; omega)
  · exact h.types_of _ fun g hg => hrf g (h.fo.lt g hg).2 (fun e => hGn.2.2.1 (.inl (e ▸ hg))) (h.fp g hg).2.2.1
  · show 0 < (x.fs.map (·.1)).length; rw [List.length_map]; exact hfs.1
  · show (x.fs.map (·.1)).length ≤ 4; rw [List.length_map]; exact hfs.2.1
  · intro t ht
    obtain ⟨f, hf, rfl⟩ := List.mem_map.1 ht
    exact hfs.2.2 f hf
  · exact len_owned h.mo
  · obtain rfl := Option.some.inj hq; rfl
end Go.Proofs.YtinljaobdnkifaaDoor
namespace Go.Proofs.YtinljaobdnkifaaDoor
open Go.RowKit

def digit (n : Nat) : ByteArray := ⟨#[(48 + n).toUInt8]⟩
theorem digit_size (n : Nat) : (digit n).size = 1 := rfl
theorem rune_int (n : Nat) (hn : n < 4) (w : World) : (convert 3 21 (.int .i64 (48 + (n : Int)))).run Tryd.prog w = .ok (.int .i32 (48 + (n : Int))) w := by
  have e : IntKind.i32.wrap (48 + (n : Int)) = 48 + (n : Int) := by
    rcases (show n = 0 ∨ n = 1 ∨ n = 2 ∨ n = 3 by omega) with rfl | rfl | rfl | rfl <;> decide
  simp [convert, run_underlying Tryd.underlying3, run_underlying Tryd.underlying21, Conv.intToInt, e]
theorem rune_str (n : Nat) (hn : n < 4) (w : World) : (convert 21 9 (.int .i32 (48 + (n : Int)))).run Tryd.prog w = .ok (.string (digit n)) w := by
  rcases (show n = 0 ∨ n = 1 ∨ n = 2 ∨ n = 3 by omega) with rfl | rfl | rfl | rfl <;> simp [convert, run_underlying Tryd.underlying21, run_underlying Tryd.underlying9, digit] <;> rfl
end Go.Proofs.YtinljaobdnkifaaDoor
namespace Go.Proofs.YtinljaobdnkifaaDoor
open Go.RowKit

/-! ### Rows that lie in a literal -/
theorem MStep.cells {P : MP} {w w' : World} {x x' : MS} (h : MStep P w x w' x') {v : Value} {n s : Nat} {f : Nat → Nat → Value → Prop} (hv : CellsK (still P x w) w v n s f) : CellsK (still P x' w') w' v n s f := hv.keep h.keeps h.mono fun _ _ _ h => h
/-- A literal of structs in a new block. -/
theorem cells_lit {P : MP} {w : World} {x : MS} (h : Mk P w x) (cs : Array Value) (t : TypeId) (n size : Nat) (f : Nat → Nat → Value → Prop) (h0 : 0 < n) (hn : n ≤ 100) (hc : ∀ j i, j < n → i < size → ∃ u, cs[j * size + i]? = some u ∧ f j i u) :
    CellsK (still P x (w.alloc (.cells cs t))) (w.alloc (.cells cs t)) (.slice (some ⟨w.heap.size, 0, none⟩) n n) n size f := by
  obtain ⟨l1, l2, l3⟩ := h.lts
  have hw := h.bel.size
  refine ⟨_, n, rfl, Nat.le_refl _, by unfold maxLen; omega, (fun h => by cases h), fun _ => ⟨w.heap.size, 0, rfl, ⟨⟨hw, by simp⟩, by omega, by omega, fun e => by have := l3 _ e; omega⟩, fun j i hj hi => ?_⟩⟩
  obtain ⟨u, h1, h2⟩ := hc j i hj hi
  exact ⟨u, by rw [Nat.zero_add, World.cell?_alloc_new]; exact h1, h2⟩
theorem CellsK.mono {K : Nat → Prop} {w : World} {v : Value} {n size : Nat} {f f' : Nat → Nat → Value → Prop} (h : CellsK K w v n size f) (hf : ∀ j i u, j < n → i < size → f j i u → f' j i u) : CellsK K w v n size f' := by
  obtain ⟨A, c, rfl, h1, h2, h0, h3⟩ := h
  refine ⟨A, c, rfl, h1, h2, h0, fun hl => ?_⟩
  obtain ⟨g, o, rfl, h4, h5⟩ := h3 hl
  refine ⟨g, o, rfl, h4, fun j i hj hi => ?_⟩
  obtain ⟨u, h6, h7⟩ := h5 j i hj hi
  exact ⟨u, h6, hf j i u hj hi h7⟩
def hostName : ByteArray := ⟨#[104, 111, 115, 116]⟩
/-- The two imports, the four globals. -/
def twoImps : List (ByteArray × ByteArray × Int) := [(hostName, ⟨#[111, 110, 101]⟩, 1), (hostName, ⟨#[116, 119, 111]⟩, 7)]
def fourGlobs : List (Int × Bool × Int) := [(127, true, 5), (126, true, 1099511627776), (124, true, 4611686018427387904), (127, false, 9)]
def impL : Array Value := #[.string ⟨#[104, 111, 115, 116]⟩, .string ⟨#[111, 110, 101]⟩, .int .i64 1, .string ⟨#[104, 111, 115, 116]⟩, .string ⟨#[116, 119, 111]⟩, .int .i64 7]
def globL : Array Value := #[.int .i64 127, .bool true, .int .u64 5, .int .i64 126, .bool true, .int .u64 1099511627776, .int .i64 124, .bool true, .int .u64 4611686018427387904, .int .i64 127, .bool false, .int .u64 9]
theorem imp_cells (j i : Nat) (hj : j < 2) (hi : i < 3) : ∃ u, impL[j * 3 + i]? = some u ∧ impCell (twoImps.getD j (ByteArray.empty, ByteArray.empty, 0)) i u := by
  rcases (show j = 0 ∨ j = 1 by omega) with rfl | rfl <;> rcases (show i = 0 ∨ i = 1 ∨ i = 2 by omega) with rfl | rfl | rfl <;> exact ⟨_, rfl, rfl⟩
theorem glob_cells (j i : Nat) (hj : j < 4) (hi : i < 3) : ∃ u, globL[j * 3 + i]? = some u ∧ globCell (fourGlobs.getD j (0, false, 0)) i u := by
  rcases (show j = 0 ∨ j = 1 ∨ j = 2 ∨ j = 3 by omega) with rfl | rfl | rfl | rfl <;> rcases (show i = 0 ∨ i = 1 ∨ i = 2 by omega) with rfl | rfl | rfl <;> exact ⟨_, rfl, rfl⟩
theorem imps_field {K : Nat → Prop} {w : World} {v : Value} (h : ImpsK K w v twoImps) : FieldK K w v 3 2 [1, 7] :=
  CellsK.mono h fun j i u hj hi hu e => by
    subst e
    have hj2 : j < 2 := hj
    rcases (show j = 0 ∨ j = 1 by omega) with rfl | rfl <;> exact hu
theorem globs_field {K : Nat → Prop} {w : World} {v : Value} (h : GlobsK K w v fourGlobs) : FieldK K w v 3 0 [127, 126, 124, 127] :=
  CellsK.mono h fun j i u hj hi hu e => by
    subst e
    have hj4 : j < 4 := hj
    rcases (show j = 0 ∨ j = 1 ∨ j = 2 ∨ j = 3 by omega) with rfl | rfl | rfl | rfl <;> exact hu

/-! ### Datas, exports -/
def memName : ByteArray := ⟨#[109, 101, 109, 111, 114, 121]⟩
def globName : ByteArray := ⟨#[103, 108, 111, 98, 97, 108]⟩
def actB : List Nat := [97, 99, 116, 105, 118, 101]
def pasB : List Nat := [112, 97, 115, 115, 105, 118, 101]
/-- The datas, if there are nm memories. -/
def datsOk (nm : Nat) (ds : List Dat) : Prop := (nm = 0 ∧ ds = []) ∨ (0 < nm ∧ ∃ a b : Nat, a < nm ∧ b < 1000 ∧ ds = [⟨true, (a : Int), (b : Int), actB⟩, ⟨false, 0, 0, pasB⟩])
theorem datsOk.len {nm : Nat} {ds : List Dat} (h : datsOk nm ds) : ds.length ≤ 2 ∧ (0 < nm → ds.length = 2) := by
  rcases h with ⟨h, rfl⟩ | ⟨h, a, b, _, _, rfl⟩
  · exact ⟨Nat.zero_le _, fun h' => by omega⟩
  · exact ⟨Nat.le_refl _, fun _ => rfl⟩
/-- The exports ahead of the functions'; the functions'. -/
def mexp (nm : Nat) : List (ByteArray × Int × Int) := if 0 < nm then [(memName, 2, (nm : Int) - 1)] else []
def fexp (n : Nat) : List (ByteArray × Int × Int) := (List.range n).map fun i => (⟨#[102]⟩ ++ digit i, 0, 2 + (i : Int))
theorem mexp_le (nm : Nat) : (mexp nm).length ≤ 1 := by unfold mexp; split <;> simp
theorem fexp_len (n : Nat) : (fexp n).length = n := by simp [fexp]
theorem fexp_succ (n : Nat) : fexp (n + 1) = fexp n ++ [(⟨#[102]⟩ ++ digit n, 0, 2 + (n : Int))] := by simp [fexp, List.range_succ]

/-! ### Functions that get their code -/
def kind3 (t : Int) : Prop := t = 127 ∨ t = 126 ∨ t = 124
def iend : Iv := ⟨11, 0, 0, 0, .slice none 0 0⟩
/-- A function in the row: its type, its locals, its code; made: its code is whole. -/
structure FnI (P : MP) (w : World) (x : MS) (made : Prop) (f : Int × Value × Value) : Prop where
  ty : 0 ≤ f.1 ∧ f.1 < 9
  loc : ∃ ll : List Int, ll.length ≤ 3 ∧ IntsK (still P x w) w f.2.1 ll ∧ ∀ t ∈ ll, kind3 t
  code : ∃ c : List Iv, c.length ≤ 900000 ∧ CellsK (still P x w) w f.2.2 c.length 5 (fun j i u => (flat c)[j * 5 + i]? = some u) ∧ (∀ iv ∈ c, ∃ l, IntsK (fun k => k < w.heap.size ∧ k ≠ P.T) w iv.l l) ∧ (made → ∃ d, c = d ++ [iend] ∧ nestOf (d.map Iv.op) [] = some [])
theorem FnI.step {P : MP} {w w' : World} {x x' : MS} {made made' : Prop} {f : Int × Value × Value} (h : FnI P w x made f) (hs : MStep P w x w' x') (hk : Keeps (fun k => k < w.heap.size ∧ k ≠ P.T) w w') (hm : made' → made) : FnI P w' x' made' f := by
  obtain ⟨h1, ⟨ll, h2, h3, h4⟩, c, h5, h6, h7, h8⟩ := h
  exact ⟨h1, ⟨ll, h2, hs.ints h3, h4⟩, c, h5, hs.cells h6, fun iv hiv => by
    obtain ⟨l, hl⟩ := h7 iv hiv
    exact ⟨l, hl.keep hk fun k hk' => ⟨Nat.lt_of_lt_of_le hk'.1 hk.size, hk'.2⟩⟩, fun hm' => h8 (hm hm')⟩
/-- What a cell that is no int holds may be another one. -/
theorem IntsK.set {K : Nat → Prop} {w : World} {v : Value} {l : List Int} (h : IntsK K w v l) {p : Addr} {u0 : Value} (hp : w.cell? p = some u0) (hn : ∀ n, u0 ≠ .int .i64 n) (u : Value) : IntsK K (w.setCell p u) v l := by
  obtain ⟨A, c, rfl, h1, h0, h3⟩ := h
  refine ⟨A, c, rfl, h1, h0, fun hl => ?_⟩
  obtain ⟨g, o, rfl, h4, h5⟩ := h3 hl
  refine ⟨g, o, rfl, h4, fun j hj => ?_⟩
  have e := h5 j hj
  by_cases hpe : p = ⟨g, o + j, none⟩
  · rw [hpe, e] at hp
    exact absurd (Option.some.inj hp).symm (hn _)
  · rw [World.cell?_setCell_other _ _ _ _ hpe]; exact e
/-- What lies while functions get their code: the first i have theirs. -/
structure Fourth (P : MP) (W0 : World) (X0 : MS) (nm n i : Nat) (r : Nat) (w : World) (x : MS) : Prop where
  md : Mk P w x
  st : MStep P W0 X0 w x
  m0 : x.m0 = X0.m0
  m1 : x.m1 = X0.m1
  m4 : x.m4 = X0.m4
  fs : x.fs.length = n ∧ ∀ j f, x.fs[j]? = some f → FnI P w x (j < i) f
  ms : x.ms.length = nm ∧ nm ≤ 3 ∧ ∀ m ∈ x.ms, 1 ≤ m.1 ∧ m.1 ≤ 2 ∧ 2 ≤ m.2 ∧ m.2 ≤ 4
  ds : ∃ ds, DatasK (still P x w) w x.m6 ds ∧ datsOk nm ds
  es : x.es = mexp nm ++ fexp n ++ [(globName, 3, (r : Int))]
/-- Behind a function's code is made, ahead of its being laid. -/
theorem Fourth.later {P : MP} {W0 : World} {X0 : MS} {nm n i r : Nat} {w w' : World} {x : MS} (h : Fourth P W0 X0 nm n i r w x) (hk : Keeps (fun k => k < w.heap.size ∧ k ≠ P.T) w w') (a : Nat) (ha : a ≤ P.tl.length) (hT : w'.heap[P.T]? = some (.cells #[P.tv, .int .i64 (a : Int)] 50 (0, 0))) : Fourth P W0 X0 nm n i r w' { x with at_ := a } := by
  obtain ⟨h1, h2⟩ := h.md.later hk a ha hT
  refine ⟨h1, h.st.trans h2, h.m0, h.m1, h.m4, ⟨h.fs.1, fun j f hf => (h.fs.2 j f hf).step h2 hk fun h => h⟩, h.ms, ?_, h.es⟩
  obtain ⟨ds, h3, h4⟩ := h.ds
  exact ⟨ds, DatasK.keep h3 h2.keeps h2.mono, h4⟩
/-- A function's code is laid. -/
theorem Fourth.code {P : MP} {W0 : World} {X0 : MS} {nm n i r : Nat} {w : World} {x : MS} (h : Fourth P W0 X0 nm n i r w x) {g cap : Nat} (hm : x.m2 = .slice (some ⟨g, 0, none⟩) n cap) (hi : i < n) {cv : Value} {c : List Iv} (hc : c.length ≤ 900000) (hcv : CellsK (still P x w) w cv c.length 5 (fun j i u => (flat c)[j * 5 + i]? = some u))
    (hl : ∀ iv ∈ c, ∃ l, IntsK (fun k => k < w.heap.size ∧ k ≠ P.T) w iv.l l) (hd : ∃ d, c = d ++ [iend] ∧ nestOf (d.map Iv.op) [] = some []) : ∃ fs', Fourth P W0 X0 nm n (i + 1) r (w.setCell ⟨g, i * 3 + 2, none⟩ cv) { x with fs := fs' } := by
  obtain ⟨hn, hfs⟩ := h.fs
  have hil : i < x.fs.length := by omega
  have hf : x.fs[i]? = some x.fs[i] := List.getElem?_eq_getElem hil
  obtain ⟨f, hfe⟩ : ∃ f, f = x.fs[i] := ⟨_, rfl⟩
  rw [← hfe] at hf
  rw [← hn] at hm
  obtain ⟨h1, h2⟩ := h.md.code hm hf cv
  have hfo := h.md.fo
  rw [hm] at hfo
  have hgb : x.m2.ownBlock = some g := by rw [hm]; rfl
  have hcell : w.cell? ⟨g, i * 3 + 2, none⟩ = some f.2.2 := by rw [hfo.cellAt _ (by omega)]; exact (flatFn_at x.fs i f hf).2.2
  have hni : ∀ k, f.2.2 ≠ .int .i64 k := fun k e => by
    obtain ⟨_, _, c', _, h6, _⟩ := hfs i f hf
    obtain ⟨A, c2, h7, _⟩ := h6.form
    rw [h7] at e; cases e
  have hsz : (w.setCell ⟨g, i * 3 + 2, none⟩ cv).heap.size = w.heap.size := by simp [World.setCell]
  have hq : ∀ {v l}, IntsK (fun k => k < w.heap.size ∧ k ≠ P.T) w v l → IntsK (fun k => k < (w.setCell ⟨g, i * 3 + 2, none⟩ cv).heap.size ∧ k ≠ P.T) (w.setCell ⟨g, i * 3 + 2, none⟩ cv) v l := fun hv => by
    rw [hsz]; exact hv.set hcell hni cv
  refine ⟨_, h1, h.st.trans h2, h.m0, h.m1, h.m4, ⟨by rw [List.length_set]; exact hn, fun j f' hj => ?_⟩, h.ms, ?_, h.es⟩
  · rw [List.getElem?_set] at hj
    by_cases hji : i = j
    · rw [if_pos hji, if_pos hil] at hj
      obtain rfl := Option.some.inj hj
      obtain ⟨k1, ⟨ll, k2, k3, k4⟩, _⟩ := hfs i f hf
      exact ⟨k1, ⟨ll, k2, h2.ints k3, k4⟩, c, hc, h2.cells hcv, fun iv hiv => by obtain ⟨l, hl'⟩ := hl iv hiv; exact ⟨l, hq hl'⟩, fun _ => hd⟩
    · rw [if_neg hji] at hj
      obtain ⟨k1, ⟨ll, k2, k3, k4⟩, c', k5, k6, k7, k8⟩ := hfs j f' hj
      exact ⟨k1, ⟨ll, k2, h2.ints k3, k4⟩, c', k5, h2.cells k6, fun iv hiv => by obtain ⟨l, hl'⟩ := k7 iv hiv; exact ⟨l, hq hl'⟩, fun h => k8 (by omega)⟩
  · obtain ⟨ds, h3, h4⟩ := h.ds
    exact ⟨ds, DatasK.keep h3 h2.keeps h2.mono, h4⟩

/-- The document's Locals and Sig, of a function that has no code yet. -/
theorem Fourth.sigs {P : MP} {W0 : World} {X0 : MS} {nm n i r : Nat} {w : World} {x : MS} (h : Fourth P W0 X0 nm n i r w x) (hi : i < n) (hn : n ≤ 4) (h0 : TypesK (still P x w) w x.m0 nineL) (h1 : ImpsK (still P x w) w x.m1 twoImps) :
    ∃ (t : Nat) (ll : List Int), t < 9 ∧ ll.length ≤ 3 ∧ ∀ wz, Below w.heap.size w wz →
      (Calls Tryd.prog 13 #[.agg #[x.m0, x.m1, x.m2, x.m3, x.m4, x.m5, x.m6, .slice none 0 0], .int .i64 (2 + (i : Int))] wz (LocPost ((nineL.getD t ([], [])).1 ++ ll) wz)) ∧
      (Calls Tryd.prog 14 #[.agg #[x.m0, x.m1, x.m2, x.m3, x.m4, x.m5, x.m6, .slice none 0 0], .int .i64 (2 + (i : Int))] wz (SigPost (fun k => k < w.heap.size ∧ k ≠ P.T) (nineL.getD t ([], [])) wz)) := by
  obtain ⟨hl, hfs⟩ := h.fs
  have hil : i < x.fs.length := by omega
  have hf : x.fs[i]? = some x.fs[i] := List.getElem?_eq_getElem hil
  obtain ⟨f, hfe⟩ : ∃ f, f = x.fs[i] := ⟨_, rfl⟩
  rw [← hfe] at hf
  obtain ⟨⟨t0, t9⟩, ⟨ll, hll, hlk, _⟩, _⟩ := hfs i f hf
  obtain ⟨l1, l2, l3⟩ := h.md.lts
  have hcell : ∀ g o n' c, x.m2 = .slice (some ⟨g, o, none⟩) n' c → g < w.heap.size ∧ w.cell? ⟨g, o + i * 3 + 1, none⟩ = some f.2.1 := fun g o n' c e => by
    have hfo := h.md.fo
    have hb : x.m2.ownBlock = some g := by rw [e]; rfl
    rcases hfo.2 with ⟨e2, _⟩ | ⟨g', cap, cur, e2, _⟩
    · rw [e] at e2; cases e2
    · rw [e] at e2
      simp only [Value.slice.injEq, Option.some.injEq, Addr.mk.injEq] at e2
      obtain ⟨⟨rfl, rfl, _⟩, rfl, rfl⟩ := e2
      rw [e] at hfo
      exact ⟨l3 g (.inl hb), by rw [Nat.zero_add, hfo.cellAt _ (by omega)]; exact (flatFn_at x.fs i f hf).2.1⟩
  have hsk : ∀ k, still P x w k → k < w.heap.size ∧ k ≠ P.T := fun k hk => ⟨hk.1.2, hk.2.2.1⟩
  have hft : (x.fs.map (·.1)).getD i 0 = ((f.1.toNat : Nat) : Int) := by
    rw [List.getD_eq_getElem?_getD, List.getElem?_map, hf]
    show f.1 = _
    omega
  have h3 : ∀ t, t < 9 → (nineL.getD t ([], [])).1.length ≤ 3 := by decide
  have hml : (x.fs.map (·.1)).length = n := by rw [List.length_map]; exact hl
  refine ⟨f.1.toNat, ll, by omega, hll, fun wz hb => ?_⟩
  have hk : Keeps (fun k => k < w.heap.size ∧ k ≠ P.T) w wz := .below hb fun k hk => hk.1
  have k0 := h0.keep (hk.mono hsk) hsk
  have k1 := (imps_field h1).keep (hk.mono hsk) hsk
  have k2 := (h.md.types_of (fun k => k < w.heap.size ∧ k ≠ P.T) fun g hg => ⟨l3 g (.inl hg), (h.md.fp g hg).2.2.1⟩).keep hk fun _ h => h
  have e2 : (2 : Int) + (i : Int) = ((([1, 7] : List Int).length + i : Nat) : Int) := by simp
  rw [e2]
  exact ⟨rloc_yes wz (fun k => k < w.heap.size ∧ k ≠ P.T) (fun k hk => Nat.lt_of_lt_of_le hk.1 hb.size) x.m0 x.m1 x.m2 x.m3 x.m4 x.m5 x.m6 _ nineL [1, 7] _ k0 k1 k2 (by rw [hml]; show 9 + 2 + n ≤ 1000; omega) i f.1.toNat (by omega) hft (by show f.1.toNat < 9; omega) (h3 _ (by omega)) f.2.1 ll (fun g o n' c e => (hb.cell (p := ⟨g, o + i * 3 + 1, none⟩) (hcell g o n' c e).1).trans (hcell g o n' c e).2) (hlk.keep (hk.mono hsk) hsk) (by omega),
    rsig_yes (fun k => k < w.heap.size ∧ k ≠ P.T) wz x.m0 x.m1 x.m2 x.m3 x.m4 x.m5 x.m6 _ nineL [1, 7] _ k0 k1 k2 (by rw [hml]; show 9 + 2 + n ≤ 1000000; omega) _ f.1.toNat (.inr ⟨Nat.le_add_right _ _, by omega, by rw [Nat.add_sub_cancel_left]; exact hft⟩) (by show f.1.toNat < 9; omega)⟩
/-- The fields, as slices. -/
theorem Fourth.forms {P : MP} {W0 : World} {X0 : MS} {nm n i r : Nat} {w : World} {x : MS} (h : Fourth P W0 X0 nm n i r w x) (hn : 0 < n) : (∃ A k c, x.m3 = .slice A k c) ∧ (∃ A k c, x.m5 = .slice A k c) ∧ (∃ A k c, x.m6 = .slice A k c) ∧ ∃ g c, x.m2 = .slice (some ⟨g, 0, none⟩) n c ∧ n ≤ c := by
  obtain ⟨A3, c3, h3⟩ := owns_slice h.md.mo
  obtain ⟨A5, c5, h5⟩ := owns_slice h.md.eo
  obtain ⟨ds, hd, _⟩ := h.ds
  obtain ⟨A6, c6, h6, _⟩ := CellsK.form hd
  refine ⟨⟨_, _, _, h3⟩, ⟨_, _, _, h5⟩, ⟨_, _, _, h6⟩, ?_⟩
  rcases h.md.fo.2 with ⟨_, h0⟩ | ⟨g, cap, cur, h1, _, _, h2, _⟩
  · have := h.fs.1; omega
  · exact ⟨g, cap, by rw [h1, h.fs.1], by have := h.fs.1; omega⟩
theorem Fourth.spot {P : MP} {W0 : World} {X0 : MS} {nm n i r : Nat} {w w' : World} {x : MS} (h : Fourth P W0 X0 nm n i r w x) {g cap : Nat} (hm : x.m2 = .slice (some ⟨g, 0, none⟩) n cap) (hi : i < n) (hk : Keeps (fun k => k < w.heap.size ∧ k ≠ P.T) w w') :
    w'.frozen? ⟨g, i * 3 + 2, none⟩ = false ∧ (∃ u, w'.cell? ⟨g, i * 3 + 2, none⟩ = some u) ∧ w'.cell? ⟨P.M, 2, none⟩ = some x.m2 := by
  obtain ⟨l1, _, l3⟩ := h.md.lts
  have hfo := owns_keep h.md.fo hk fun g hg => ⟨l3 g (.inl hg), (h.md.fp g hg).2.2.1⟩
  have hl := h.fs.1
  rw [hm, hl] at hfo
  have hlen : i * 3 + 2 < (flatFn x.fs).length := by rw [flatFn_length]; omega
  exact ⟨hfo.frozenAt _, ⟨_, by rw [hfo.cellAt _ (by omega)]; exact List.getElem?_eq_getElem hlen⟩, (hk.cell (p := ⟨P.M, 2, none⟩) ⟨l1, h.md.new.2.2⟩).trans (h.md.cell 2)⟩
theorem CellsK.form3 {K : Nat → Prop} {w : World} {v : Value} {n size : Nat} {f : Nat → Nat → Value → Prop} (h : CellsK K w v n size f) : ∃ A k c, v = .slice A k c := by
  obtain ⟨A, c, h1, _⟩ := h.form
  exact ⟨A, _, c, h1⟩
/-- The maker's struct, its own type and its labels set. -/
theorem box_set {w : World} {G : Nat} {cs : Array Value} {t : TypeId} (h : w.heap[G]? = some (.cells cs t (0, 0))) (p r v : Value) (ob : Obj) :
    ((((w.setCell ⟨G, 10, none⟩ p).setCell ⟨G, 11, none⟩ r).alloc ob).setCell ⟨G, 13, none⟩ v).heap[G]? = some (.cells (((cs.setIfInBounds 10 p).setIfInBounds 11 r).setIfInBounds 13 v) t (0, 0)) := by
  have h1 := heap_setCell_at w G 10 cs t p h
  have h2 := heap_setCell_at _ G 11 _ t r h1
  have hlt := (Array.getElem?_eq_some_iff.1 h2).1
  exact heap_setCell_at _ G 13 _ t v ((Below.heap_alloc _ ob _ hlt).trans h2)
/-- The maker, as it begins. -/
theorem Fourth.gen {P : MP} {W0 : World} {X0 : MS} {nm n i r : Nat} {w w3 : World} {x : MS} (h : Fourth P W0 X0 nm n i r w x) (hn : 0 < n ∧ n ≤ 4) (h0 : TypesK (still P x w) w x.m0 nineL) (h1 : ImpsK (still P x w) w x.m1 twoImps) (h4 : GlobsK (still P x w) w x.m4 fourGlobs)
    {G : Nat} (hG : w.heap.size ≤ G) {lov : Value} {lo : List Int} (hlo : IntsK (fun k => w.heap.size ≤ k ∧ k < G) w3 lov lo) (hlo1 : lo.length ≤ 100) {p rv : Value} {t : List Int × List Int} (hr : IntsK (fun k => k < w.heap.size ∧ k ≠ P.T) w3 rv t.2) (hr3 : t.2.length ≤ 3)
    (hw3 : Below w.heap.size w w3) (hG3 : w3.heap[G]? = some (.cells #[.pointer (some ⟨P.T, 0, none⟩), x.m0, x.m1, x.m2, x.m3, x.m4, x.m5, x.m6, .slice none 0 0, lov, .slice none 0 0, .slice none 0 0, .slice none 0 0, .slice none 0 0, .slice none 0 0, .int .i64 40, .bool true] 66 (0, 0))) :
    ∃ F x0, F.G = G ∧ F.T = P.T ∧ F.o = some [] ∧ (∀ k, ¬ F.E k) ∧ F.tl = P.tl ∧ F.rv = rv ∧ F.ro = t.2 ∧ x0.s = [] ∧ x0.c = [] ∧ x0.nl = 1 ∧ x0.left = 40 ∧ F.tv = P.tv ∧
      Gen F ((((w3.setCell ⟨G, 10, none⟩ p).setCell ⟨G, 11, none⟩ rv).alloc (.cells #[rv] 22)).setCell ⟨G, 13, none⟩ (.slice (some ⟨w3.heap.size, 0, none⟩) 1 1)) x0 ∧
      Below w.heap.size w ((((w3.setCell ⟨G, 10, none⟩ p).setCell ⟨G, 11, none⟩ rv).alloc (.cells #[rv] 22)).setCell ⟨G, 13, none⟩ (.slice (some ⟨w3.heap.size, 0, none⟩) 1 1)) ∧
      (∀ k, k < w.heap.size ∧ k ≠ P.T → free F ((((w3.setCell ⟨G, 10, none⟩ p).setCell ⟨G, 11, none⟩ rv).alloc (.cells #[rv] 22)).setCell ⟨G, 13, none⟩ (.slice (some ⟨w3.heap.size, 0, none⟩) 1 1)) x0 k) ∧
      (∀ k, ¬ (k = G ∨ k = P.T) → k < ((((w3.setCell ⟨G, 10, none⟩ p).setCell ⟨G, 11, none⟩ rv).alloc (.cells #[rv] 22)).setCell ⟨G, 13, none⟩ (.slice (some ⟨w3.heap.size, 0, none⟩) 1 1)).heap.size → free F ((((w3.setCell ⟨G, 10, none⟩ p).setCell ⟨G, 11, none⟩ rv).alloc (.cells #[rv] 22)).setCell ⟨G, 13, none⟩ (.slice (some ⟨w3.heap.size, 0, none⟩) 1 1)) x0 k) := by
  have hGlt := (Array.getElem?_eq_some_iff.1 hG3).1
  have hbx := box_set hG3 p rv (.slice (some ⟨w3.heap.size, 0, none⟩) 1 1) (.cells #[rv] 22)
  have hsz1 : ((w3.setCell ⟨G, 10, none⟩ p).setCell ⟨G, 11, none⟩ rv).heap.size = w3.heap.size := by simp [World.setCell]
  have hsz : ((((w3.setCell ⟨G, 10, none⟩ p).setCell ⟨G, 11, none⟩ rv).alloc (.cells #[rv] 22)).setCell ⟨G, 13, none⟩ (.slice (some ⟨w3.heap.size, 0, none⟩) 1 1)).heap.size = w3.heap.size + 1 := by simp [World.setCell]
  have hkp : Keeps (fun k => k < w3.heap.size ∧ k ≠ G) w3 ((((w3.setCell ⟨G, 10, none⟩ p).setCell ⟨G, 11, none⟩ rv).alloc (.cells #[rv] 22)).setCell ⟨G, 13, none⟩ (.slice (some ⟨w3.heap.size, 0, none⟩) 1 1)) :=
    (Keeps.setCell w3 (fun e => e.2 rfl) p).trans ((Keeps.setCell _ (fun e => e.2 rfl) rv).trans ((Keeps.alloc _ (fun k hk => by rw [hsz1]; exact hk.1) _).trans (Keeps.setCell _ (fun e => e.2 rfl) _)))
  have hlb : ((((w3.setCell ⟨G, 10, none⟩ p).setCell ⟨G, 11, none⟩ rv).alloc (.cells #[rv] 22)).setCell ⟨G, 13, none⟩ (.slice (some ⟨w3.heap.size, 0, none⟩) 1 1)).cell? ⟨w3.heap.size, 0, none⟩ = some rv := by
    rw [World.cell?_setCell_far _ _ _ _ (by show G ≠ w3.heap.size; omega)]
    have h9 := World.cell?_alloc_new ((w3.setCell ⟨G, 10, none⟩ p).setCell ⟨G, 11, none⟩ rv) #[rv] 22 0
    rw [hsz1] at h9
    exact h9
  generalize ((((w3.setCell ⟨G, 10, none⟩ p).setCell ⟨G, 11, none⟩ rv).alloc (.cells #[rv] 22)).setCell ⟨G, 13, none⟩ (.slice (some ⟨w3.heap.size, 0, none⟩) 1 1)) = w4 at *
  have hw3s := hw3.size
  have hb4 : Below w.heap.size w w4 := ⟨hkp.os.trans hw3.os, hkp.tape.trans hw3.tape, hkp.output.trans hw3.output, by omega, fun k hk => (hkp.block k ⟨by omega, by omega⟩).trans (hw3.block k hk)⟩
  obtain ⟨hm4, hs4⟩ := h.md.below hb4
  obtain ⟨l1, l2, l3⟩ := h.md.lts
  have hK4 : Keeps (fun k => k < w.heap.size ∧ k ≠ P.T) w w4 := .below hb4 fun k hk => hk.1
  have hsk : ∀ k, still P x w k → k < w4.heap.size ∧ k ≠ G ∧ k ≠ P.T := fun k hk => ⟨by have := hk.1.2; omega, by have := hk.1.2; omega, hk.2.2.1⟩
  have hks : Keeps (still P x w) w w4 := .below hb4 fun k hk => hk.1.2
  obtain ⟨ds, hd, hdo⟩ := h.ds
  have hdl := hdo.len
  obtain ⟨Ad, cd, hde, hd1, hd2⟩ := hd.form
  have hgen := gen_start hm4 G lov lo p rv t.2 ds.length (.slice (some ⟨w3.heap.size, 0, none⟩) 1 1) hbx ⟨by omega, by omega, fun e => by have := l3 G e; omega, by have := h.md.bel.size; omega⟩
    (hlo.keep (hkp.mono fun k hk => ⟨by omega, by omega⟩) fun k hk => ⟨by omega, by omega, by omega⟩) hlo1 (hr.keep (hkp.mono fun k hk => ⟨by omega, by omega⟩) fun k hk => ⟨by omega, by omega, hk.2⟩) hr3
    (h0.keep hks hsk) ((imps_field h1).keep hks hsk) ((globs_field h4).keep hks hsk) ⟨by have := h.fs.1; omega, by have := h.fs.1; omega, fun f hf => by obtain ⟨j, hj, rfl⟩ := List.mem_iff_getElem.1 hf; exact (h.fs.2 j _ (List.getElem?_eq_getElem hj)).ty⟩ (by rw [h.ms.1]; exact h.ms.2.1)
    ⟨⟨Ad, cd, hde, hd1, hd2⟩, hdl.1, fun hp => hdl.2 (by rw [h.ms.1] at hp; exact hp)⟩
    ⟨_, 1, rfl, Nat.le_refl _, by unfold maxLen; omega, (fun h => by cases h), fun _ => ⟨w3.heap.size, 0, rfl, ⟨by omega, by omega, by omega⟩, fun j i' hj hi' => by
      obtain rfl : j = 0 := by omega
      obtain rfl : i' = 0 := by omega
      exact ⟨rv, hlb, t.2, hr3, hr.keep (hkp.mono fun k hk => ⟨by omega, by omega⟩) fun k hk => ⟨by omega, by omega, by have := hk.2; omega⟩⟩⟩⟩
  have hfr : ∀ k, ¬ (k = G ∨ k = P.T) → k < w4.heap.size → free (fxOf P x G lov lo p rv t.2 ds.length) w4 (stOf (.slice (some ⟨w3.heap.size, 0, none⟩) 1 1) x.at_) k := fun k hk hlt => ⟨hlt, fun e => by
    rcases e with e | e | e | e
    · exact hk (.inl e)
    · exact hk (.inr e)
    · cases e
    · cases e⟩
  exact ⟨_, _, rfl, rfl, rfl, fun _ e => e, rfl, rfl, rfl, rfl, rfl, rfl, rfl, rfl, hgen, hb4, fun k hk => hfr k (fun e => by rcases e with e | e; omega; exact hk.2 e) (by omega), hfr⟩
/-- Behind the maker: its code is laid into the function. -/
theorem Fourth.made {P : MP} {W0 : World} {X0 : MS} {nm n i r : Nat} {w w4 w9 : World} {x : MS} (h : Fourth P W0 X0 nm n i r w x) {F : Fx} {x0 x9 : St} (hT : F.T = P.T) (htl : F.tl = P.tl) (htv : F.tv = P.tv) (hb4 : Below w.heap.size w w4) (hfr : ∀ k, k < w.heap.size ∧ k ≠ P.T → free F w4 x0 k) (hfr2 : ∀ k, ¬ (k = F.G ∨ k = P.T) → k < w4.heap.size → free F w4 x0 k)
    (hg : Gen F w9 x9) (hs : Step F w4 x0 w9 x9) (hi : i < n) {g cap : Nat} (hm : x.m2 = .slice (some ⟨g, 0, none⟩) n cap) (hc : x9.c.length ≤ 900000) (hd : ∃ d, x9.c = d ++ [iend] ∧ nestOf (d.map Iv.op) [] = some []) :
    ∃ y', Fourth P W0 X0 nm n (i + 1) r (w9.setCell ⟨g, i * 3 + 2, none⟩ x9.cv) y' := by
  have hK : Keeps (fun k => k < w.heap.size ∧ k ≠ P.T) w w9 := (Keeps.below hb4 fun k hk => hk.1).trans (hs.keeps.mono hfr)
  have hf9 := h.later hK x9.at_ (by rw [← htl]; exact hg.le) (by rw [← hT, ← htv]; exact hg.ht)
  obtain ⟨l1, l2, l3⟩ := h.md.lts
  obtain ⟨g1, g2, g3, g4⟩ := hg.lts
  have hsz := hb4.size
  have hcv : ∀ k, x9.cv.ownBlock = some k → w4.heap.size ≤ k := fun k hk => by
    rcases Nat.lt_or_ge k w4.heap.size with hlt | hge
    · obtain ⟨q1, q2⟩ := hg.cp k hk
      have := hs.mono k (hfr2 k (fun e => by rcases e with e | e; exact q1 e; exact q2 (e.trans hT.symm)) hlt)
      exact absurd (.inr (.inr (.inr hk))) this.2
    · exact hge
  have hWs := h.md.bel.size
  obtain ⟨fs', hf'⟩ := hf9.code hm hi hc (owns_cellsK hg.co _ (fun k hk => (⟨⟨by have := hcv k hk; omega, g4 k hk⟩, by have := hcv k hk; omega, by have := hcv k hk; omega, fun e => by have := hcv k hk; have := l3 k e; omega⟩ : still P _ w9 k)) fun j i' hj hi' => by
      have hlt : j * 5 + i' < (flat x9.c).length := by rw [flat_length]; omega
      exact ⟨_, List.getElem?_eq_getElem hlt, List.getElem?_eq_getElem hlt⟩)
    (fun iv hiv => by
      obtain ⟨l, hl⟩ := hg.reads.code iv hiv
      exact ⟨l, hl.keep (.refl _ _) fun k hk => ⟨hk.1.1, fun e => hk.1.2 (.inr (.inl (e.trans hT.symm)))⟩⟩) hd
  exact ⟨_, hf'⟩

/-! ### Out of it: a module as plain data -/
theorem list_of {α β : Type} (R : α → β → Prop) (l : List α) (h : ∀ a ∈ l, ∃ b, R a b) : ∃ m : List β, m.length = l.length ∧ ∀ (j : Nat) (a : α), l[j]? = some a → ∃ b, m[j]? = some b ∧ R a b := by
  induction l with
  | nil => exact ⟨[], rfl, fun j a h => by simp at h⟩
  | cons x l ih =>
    obtain ⟨b, hb⟩ := h x (List.mem_cons_self ..)
    obtain ⟨m, h1, h2⟩ := ih fun a ha => h a (List.mem_cons_of_mem _ ha)
    refine ⟨b :: m, by simp [h1], fun j a hj => ?_⟩
    cases j with
    | zero => simp only [List.getElem?_cons_zero, Option.some.injEq] at hj; subst hj; exact ⟨b, rfl, hb⟩
    | succ j => simpa using h2 j a (by simpa using hj)
theorem flat_at (c : List Iv) : ∀ k (iv : Iv), c[k]? = some iv → (flat c)[k * 5]? = some (.int .i64 iv.op) ∧ (flat c)[k * 5 + 1]? = some (.int .i64 iv.a) ∧ (flat c)[k * 5 + 2]? = some (.int .i64 iv.b) ∧ (flat c)[k * 5 + 3]? = some (.int .u64 iv.n) ∧ (flat c)[k * 5 + 4]? = some iv.l := by
  induction c with
  | nil => intro k iv h; simp at h
  | cons x c ih =>
    intro k iv h
    rw [show flat (x :: c) = x.cells ++ flat c from rfl]
    cases k with
    | zero => simp only [List.getElem?_cons_zero, Option.some.injEq] at h; subst h; exact ⟨rfl, rfl, rfl, rfl, rfl⟩
    | succ k =>
      have h3 : x.cells.length = 5 := rfl
      rw [List.getElem?_append_right (by rw [h3]; omega), List.getElem?_append_right (by rw [h3]; omega), List.getElem?_append_right (by rw [h3]; omega), List.getElem?_append_right (by rw [h3]; omega), List.getElem?_append_right (by rw [h3]; omega), h3, show (k + 1) * 5 - 5 = k * 5 by omega, show (k + 1) * 5 + 1 - 5 = k * 5 + 1 by omega, show (k + 1) * 5 + 2 - 5 = k * 5 + 2 by omega, show (k + 1) * 5 + 3 - 5 = k * 5 + 3 by omega, show (k + 1) * 5 + 4 - 5 = k * 5 + 4 by omega]
      exact ih k iv (by simpa using h)
/-- An instruction as plain data. -/
def ivIs (w : World) (iv : Iv) (x : Ins) : Prop := iv.op = x.op ∧ iv.a = x.a ∧ iv.b = x.b ∧ iv.n = x.n ∧ IntsK (fun k => k < w.heap.size) w iv.l x.l
theorem codeK_of {K : Nat → Prop} {w : World} {v : Value} {c : List Iv} (h : CellsK K w v c.length 5 (fun j i u => (flat c)[j * 5 + i]? = some u)) (hK : ∀ k, K k → k < w.heap.size) (hl : ∀ iv ∈ c, ∃ l, IntsK (fun k => k < w.heap.size) w iv.l l) :
    ∃ d : List Ins, d.length = c.length ∧ CodeK (fun k => k < w.heap.size) w v d ∧ ∀ (j : Nat) (iv : Iv), c[j]? = some iv → ∃ x, d[j]? = some x ∧ ivIs w iv x := by
  obtain ⟨d, hd, hr⟩ := list_of (ivIs w) c fun iv hiv => by
    obtain ⟨l, hl'⟩ := hl iv hiv
    exact ⟨⟨iv.op, iv.a, iv.b, iv.n, l⟩, rfl, rfl, rfl, rfl, hl'⟩
  refine ⟨d, hd, ?_, hr⟩
  unfold CodeK
  rw [hd]
  have h' : CellsK (fun k => k < w.heap.size) w v c.length 5 (fun j i u => (flat c)[j * 5 + i]? = some u) := h.keep (.refl _ _) hK fun _ _ _ h => h
  refine h'.mono fun j i u hj hi hu => ?_
  have hj' : c[j]? = some c[j] := List.getElem?_eq_getElem hj
  obtain ⟨x, hx, e1, e2, e3, e4, e5⟩ := hr j _ hj'
  obtain ⟨f0, f1, f2, f3, f4⟩ := flat_at c j _ hj'
  have hg : d.getD j ins0 = x := by rw [List.getD_eq_getElem?_getD, hx]; rfl
  rw [hg]
  rcases (show i = 0 ∨ i = 1 ∨ i = 2 ∨ i = 3 ∨ i = 4 by omega) with rfl | rfl | rfl | rfl | rfl
  · rw [Nat.add_zero, f0] at hu; obtain rfl := Option.some.inj hu; show _ = Value.int .i64 x.op; rw [e1]
  · rw [f1] at hu; obtain rfl := Option.some.inj hu; show _ = Value.int .i64 x.a; rw [e2]
  · rw [f2] at hu; obtain rfl := Option.some.inj hu; show _ = Value.int .i64 x.b; rw [e3]
  · rw [f3] at hu; obtain rfl := Option.some.inj hu; show _ = Value.int .u64 x.n; rw [e4]
  · rw [f4] at hu; obtain rfl := Option.some.inj hu; exact e5
/-- Code as the maker makes it. -/
def codeOk (c : List Ins) : Prop := c.length ≤ 900000 ∧ ∃ d, c = d ++ [⟨11, 0, 0, 0, []⟩] ∧ nestOf (d.map Ins.op) [] = some []
def fncOk (x : Fnc) : Prop := 0 ≤ x.ty ∧ x.ty < 9 ∧ x.loc.length ≤ 3 ∧ (∀ t ∈ x.loc, kind3 t) ∧ codeOk x.code
def fncIs (w : World) (f : Int × Value × Value) (x : Fnc) : Prop := f.1 = x.ty ∧ IntsK (fun k => k < w.heap.size) w f.2.1 x.loc ∧ CodeK (fun k => k < w.heap.size) w f.2.2 x.code
/-- What a later world keeps of a module that is made. -/
structure Kept (P : MP) (w w' : World) : Prop where
  keeps : Keeps (fun k => (P.W.heap.size ≤ k ∧ k < w.heap.size) ∧ k ≠ P.M ∧ k ≠ P.T) w w'
  lists : ∀ v l, IntsK (fun k => k < w.heap.size ∧ k ≠ P.T) w v l → IntsK (fun k => k < w'.heap.size) w' v l
theorem Kept.still {P : MP} {w w' : World} (h : Kept P w w') {x : MS} : Keeps (still P x w) w w' ∧ ∀ k, still P x w k → k < w'.heap.size :=
  ⟨h.keeps.mono fun _ hk => ⟨hk.1, hk.2.1, hk.2.2.1⟩, fun _ hk => Nat.lt_of_lt_of_le hk.1.2 h.keeps.size⟩
theorem FnI.data {P : MP} {w w' : World} {x : MS} {made : Prop} {f : Int × Value × Value} (h : FnI P w x made f) (hm : made) (hw : Kept P w w') : ∃ y, fncIs w' f y ∧ fncOk y := by
  obtain ⟨⟨h1, h1'⟩, ⟨ll, h2, h3, h4⟩, c, h5, h6, h7, h8⟩ := h
  obtain ⟨s1, s2⟩ := hw.still (x := x)
  obtain ⟨d, hd, hk, hr⟩ := codeK_of (h6.keep s1 s2 fun _ _ _ h => h) (fun _ h => h) (fun iv hiv => by obtain ⟨l, hl⟩ := h7 iv hiv; exact ⟨l, hw.lists _ _ hl⟩)
  obtain ⟨b, rfl, hb⟩ := h8 hm
  refine ⟨⟨f.1, ll, d⟩, ⟨rfl, h3.keep s1 s2, hk⟩, h1, h1', h2, h4, by show d.length ≤ _; omega, d.take b.length, ?_, ?_⟩
  · obtain ⟨x1, hx1, e1, e2, e3, e4, e5⟩ := hr b.length iend (by simp)
    obtain ⟨A, cp, he, _⟩ := e5
    have hx0 : x1.l = [] := by
      have he2 : (Value.slice none 0 0 : Value) = .slice A x1.l.length cp := he
      simp only [Value.slice.injEq] at he2
      exact List.eq_nil_of_length_eq_zero he2.2.1.symm
    have hxe : x1 = ⟨11, 0, 0, 0, []⟩ := by
      cases x1
      simp only [iend] at e1 e2 e3 e4 hx0
      simp only [← e1, ← e2, ← e3, ← e4, hx0]
    have hlen : d.length = b.length + 1 := by rw [hd]; simp
    refine List.ext_getElem? fun j => ?_
    show d[j]? = (d.take b.length ++ [⟨11, 0, 0, 0, []⟩])[j]?
    rcases Nat.lt_trichotomy j b.length with hj | hj | hj
    · rw [List.getElem?_append_left (by rw [List.length_take]; omega), List.getElem?_take, if_pos hj]
    · subst hj
      rw [List.getElem?_append_right (by rw [List.length_take]; omega), hx1, hxe, List.length_take, Nat.min_eq_left (by omega), Nat.sub_self]; rfl
    · rw [List.getElem?_eq_none (by omega), List.getElem?_eq_none (by rw [List.length_append, List.length_take]; simp; omega)]
  · have e : (d.take b.length).map Ins.op = b.map Iv.op := by
      refine List.ext_getElem? fun j => ?_
      rw [List.getElem?_map, List.getElem?_map, List.getElem?_take]
      by_cases hj : j < b.length
      · rw [if_pos hj]
        have hj' : (b ++ [iend])[j]? = some b[j] := by rw [List.getElem?_append_left hj, List.getElem?_eq_getElem hj]
        obtain ⟨y, hy, e1, _⟩ := hr j _ hj'
        rw [hy, List.getElem?_eq_getElem hj]
        simp [e1]
      · rw [if_neg hj, List.getElem?_eq_none (by omega)]
        rfl
    rw [e]; exact hb
/-- A module as the maker makes it. -/
structure MadeM (m : Mdl) : Prop where
  types : m.types = nineL
  imps : m.imps = twoImps
  funs : (0 < m.funs.length ∧ m.funs.length ≤ 4) ∧ ∀ f ∈ m.funs, fncOk f
  mems : m.mems.length ≤ 3 ∧ ∀ x ∈ m.mems, 1 ≤ x.1 ∧ x.1 ≤ 2 ∧ 2 ≤ x.2 ∧ x.2 ≤ 4
  globs : m.globs = fourGlobs
  exps : ∃ r : Nat, r < 4 ∧ m.exps = mexp m.mems.length ++ fexp m.funs.length ++ [(globName, 3, (r : Int))]
  datas : datsOk m.mems.length m.datas
  cus : m.cus = []
theorem flatMm_at (l : List (Int × Int)) : ∀ k (f : Int × Int), l[k]? = some f → (flatMm l)[k * 2]? = some (.int .i64 f.1) ∧ (flatMm l)[k * 2 + 1]? = some (.int .i64 f.2) := by
  induction l with
  | nil => intro k f h; simp at h
  | cons x l ih =>
    intro k f h
    rw [show flatMm (x :: l) = mmCells x ++ flatMm l from rfl]
    cases k with
    | zero => simp only [List.getElem?_cons_zero, Option.some.injEq] at h; subst h; exact ⟨rfl, rfl⟩
    | succ k =>
      have h3 : (mmCells x).length = 2 := rfl
      rw [List.getElem?_append_right (by rw [h3]; omega), List.getElem?_append_right (by rw [h3]; omega), h3, show (k + 1) * 2 - 2 = k * 2 by omega, show (k + 1) * 2 + 1 - 2 = k * 2 + 1 by omega]
      exact ih k f (by simpa using h)
theorem flatEx_at (l : List (ByteArray × Int × Int)) : ∀ k (f : ByteArray × Int × Int), l[k]? = some f → (flatEx l)[k * 3]? = some (.string f.1) ∧ (flatEx l)[k * 3 + 1]? = some (.int .i64 f.2.1) ∧ (flatEx l)[k * 3 + 2]? = some (.int .i64 f.2.2) := by
  induction l with
  | nil => intro k f h; simp at h
  | cons x l ih =>
    intro k f h
    rw [show flatEx (x :: l) = exCells x ++ flatEx l from rfl]
    cases k with
    | zero => simp only [List.getElem?_cons_zero, Option.some.injEq] at h; subst h; exact ⟨rfl, rfl, rfl⟩
    | succ k =>
      have h3 : (exCells x).length = 3 := rfl
      rw [List.getElem?_append_right (by rw [h3]; omega), List.getElem?_append_right (by rw [h3]; omega), List.getElem?_append_right (by rw [h3]; omega), h3, show (k + 1) * 3 - 3 = k * 3 by omega, show (k + 1) * 3 + 1 - 3 = k * 3 + 1 by omega, show (k + 1) * 3 + 2 - 3 = k * 3 + 2 by omega]
      exact ih k f (by simpa using h)
theorem getD_some {α : Type} {l : List α} {j : Nat} {a d : α} (h : l[j]? = some a) : l.getD j d = a := by rw [List.getD_eq_getElem?_getD, h]; rfl
theorem Fourth.data {P : MP} {W0 : World} {X0 : MS} {nm n r : Nat} {w w' : World} {x : MS} (h : Fourth P W0 X0 nm n n r w x) (hn : 0 < n ∧ n ≤ 4) (hr : r < 4) (h0 : TypesK (still P x w) w x.m0 nineL) (h1 : ImpsK (still P x w) w x.m1 twoImps) (h4 : GlobsK (still P x w) w x.m4 fourGlobs) (hw : Kept P w w') :
    ∃ m, MadeM m ∧ ModAt (fun k => k < w'.heap.size) w' ⟨x.m0, x.m1, x.m2, x.m3, x.m4, x.m5, x.m6, .slice none 0 0⟩ m := by
  obtain ⟨fs, hl, hf⟩ := list_of (fun f y => fncIs w' f y ∧ fncOk y) x.fs fun f hf => by
    obtain ⟨j, hj, rfl⟩ := List.mem_iff_getElem.1 hf
    exact (h.fs.2 j _ (List.getElem?_eq_getElem hj)).data (by have := h.fs.1; omega) hw
  obtain ⟨ds, hd, hdo⟩ := h.ds
  obtain ⟨_, _, l3⟩ := h.md.lts
  obtain ⟨s1, s2⟩ := hw.still (x := x)
  have ko : ∀ g, own3 x g → ((P.W.heap.size ≤ g ∧ g < w.heap.size) ∧ g ≠ P.M ∧ g ≠ P.T) := fun g hg => by
    rcases hg with e | e | e
    · have := h.md.fp g e; exact ⟨⟨this.1, l3 g (.inl e)⟩, this.2.1, this.2.2.1⟩
    · have := h.md.mp g e; exact ⟨⟨this.1, l3 g (.inr (.inl e))⟩, this.2.1, this.2.2.1⟩
    · have := h.md.ep g e; exact ⟨⟨this.1, l3 g (.inr (.inr e))⟩, this.2.1, this.2.2⟩
  have hsz := hw.keeps.size
  have hfl : fs.length = n := hl.trans h.fs.1
  refine ⟨⟨nineL, twoImps, fs, x.ms, fourGlobs, x.es, ds, []⟩, ⟨rfl, rfl, ⟨by show 0 < fs.length ∧ fs.length ≤ 4; omega, fun y hy => ?_⟩, ⟨by show x.ms.length ≤ 3; rw [h.ms.1]; exact h.ms.2.1, h.ms.2.2⟩, rfl, ⟨r, hr, ?_⟩, ?_, rfl⟩,
    ⟨h0.keep s1 s2, CellsK.keep h1 s1 s2 (fun _ _ _ h => h), ?_, ?_, CellsK.keep h4 s1 s2 (fun _ _ _ h => h), ?_, DatasK.keep hd s1 s2, ⟨none, 0, rfl, Nat.le_refl _, Nat.zero_le _, fun _ => rfl, fun h => absurd h (Nat.lt_irrefl 0)⟩⟩⟩
  · obtain ⟨j, hj, rfl⟩ := List.mem_iff_getElem.1 hy
    have hjf : j < fs.length := hj
    have hj' : j < x.fs.length := by have := h.fs.1; omega
    obtain ⟨b, hb, _, hok⟩ := hf j _ (List.getElem?_eq_getElem hj')
    rw [List.getElem?_eq_getElem hj] at hb
    obtain rfl := Option.some.inj hb
    exact hok
  · show x.es = mexp x.ms.length ++ fexp fs.length ++ _; rw [h.ms.1, hfl]; exact h.es
  · show datsOk x.ms.length ds; rw [h.ms.1]; exact hdo
  · show FunsK _ w' x.m2 fs
    unfold FunsK
    rw [hl]
    refine owns_cellsK (owns_keep h.md.fo hw.keeps fun g hg => ko g (.inl hg)) _ (fun g hg => Nat.lt_of_lt_of_le (l3 g (.inl hg)) hsz) fun j i hj hi => ?_
    have hj' : x.fs[j]? = some x.fs[j] := List.getElem?_eq_getElem hj
    obtain ⟨y, hy, ⟨e1, e2, e3⟩, _⟩ := hf j _ hj'
    obtain ⟨f0, f1, f2⟩ := flatFn_at x.fs j _ hj'
    rw [getD_some hy]
    rcases (show i = 0 ∨ i = 1 ∨ i = 2 by omega) with rfl | rfl | rfl
    · exact ⟨_, f0, by show _ = Value.int .i64 y.ty; rw [e1]⟩
    · exact ⟨_, f1, e2⟩
    · exact ⟨_, f2, e3⟩
  · refine owns_cellsK (owns_keep h.md.mo hw.keeps fun g hg => ko g (.inr (.inl hg))) _ (fun g hg => Nat.lt_of_lt_of_le (l3 g (.inr (.inl hg))) hsz) fun j i hj hi => ?_
    have hj' : x.ms[j]? = some x.ms[j] := List.getElem?_eq_getElem hj
    obtain ⟨f0, f1⟩ := flatMm_at x.ms j _ hj'
    show ∃ u, _ ∧ memCell (x.ms.getD j (0, 0)) i u
    rw [getD_some hj']
    rcases (show i = 0 ∨ i = 1 by omega) with rfl | rfl
    · exact ⟨_, f0, rfl⟩
    · exact ⟨_, f1, rfl⟩
  · refine owns_cellsK (owns_keep h.md.eo hw.keeps fun g hg => ko g (.inr (.inr hg))) _ (fun g hg => Nat.lt_of_lt_of_le (l3 g (.inr (.inr hg))) hsz) fun j i hj hi => ?_
    have hj' : x.es[j]? = some x.es[j] := List.getElem?_eq_getElem hj
    obtain ⟨f0, f1, f2⟩ := flatEx_at x.es j _ hj'
    show ∃ u, _ ∧ expCell (x.es.getD j (ByteArray.empty, 0, 0)) i u
    rw [getD_some hj']
    rcases (show i = 0 ∨ i = 1 ∨ i = 2 by omega) with rfl | rfl | rfl
    · exact ⟨_, f0, rfl⟩
    · exact ⟨_, f1, rfl⟩
    · exact ⟨_, f2, rfl⟩

/-! ### The result's variable -/
def fill8 (w : World) (B : Nat) (v : Mv) : World := ((((((((w.setCell ⟨B, 0, none⟩ v.m0).setCell ⟨B, 1, none⟩ v.m1).setCell ⟨B, 2, none⟩ v.m2).setCell ⟨B, 3, none⟩ v.m3).setCell ⟨B, 4, none⟩ v.m4).setCell ⟨B, 5, none⟩ v.m5).setCell ⟨B, 6, none⟩ v.m6).setCell ⟨B, 7, none⟩ v.m7)
theorem zeroed8 {w : World} {B : Nat} {T : TypeId} (h : w.heap[B]? = some (.cells zeroM T (0, 0))) (i : Nat) (hi : i < 8) : w.frozen? ⟨B, i, none⟩ = false ∧ w.cell? ⟨B, i, none⟩ = some (.slice none 0 0) := by
  refine ⟨by simp [World.frozen?, h], ?_⟩
  simp only [World.cell?, h]
  rcases (show i = 0 ∨ i = 1 ∨ i = 2 ∨ i = 3 ∨ i = 4 ∨ i = 5 ∨ i = 6 ∨ i = 7 by omega) with rfl | rfl | rfl | rfl | rfl | rfl | rfl | rfl <;> rfl
theorem fill8_at {w : World} {B : Nat} {T : TypeId} (h : w.heap[B]? = some (.cells zeroM T (0, 0))) (v : Mv) : (fill8 w B v).heap[B]? = some (.cells v.cells T (0, 0)) := by
  have h0 := heap_setCell_at w B 0 _ T v.m0 h
  have h1 := heap_setCell_at _ B 1 _ T v.m1 h0
  have h2 := heap_setCell_at _ B 2 _ T v.m2 h1
  have h3 := heap_setCell_at _ B 3 _ T v.m3 h2
  have h4 := heap_setCell_at _ B 4 _ T v.m4 h3
  have h5 := heap_setCell_at _ B 5 _ T v.m5 h4
  have h6 := heap_setCell_at _ B 6 _ T v.m6 h5
  have h7 := heap_setCell_at _ B 7 _ T v.m7 h6
  have e : (((((((zeroM.setIfInBounds 0 v.m0).setIfInBounds 1 v.m1).setIfInBounds 2 v.m2).setIfInBounds 3 v.m3).setIfInBounds 4 v.m4).setIfInBounds 5 v.m5).setIfInBounds 6 v.m6).setIfInBounds 7 v.m7 = v.cells := by simp [zeroM, Mv.cells]
  rw [e] at h7
  exact h7
theorem fill8_keeps (w : World) (B : Nat) (v : Mv) : Keeps (fun k => k ≠ B) w (fill8 w B v) :=
  (Keeps.setCell w (fun e => e rfl) v.m0).trans ((Keeps.setCell _ (fun e => e rfl) v.m1).trans ((Keeps.setCell _ (fun e => e rfl) v.m2).trans ((Keeps.setCell _ (fun e => e rfl) v.m3).trans ((Keeps.setCell _ (fun e => e rfl) v.m4).trans ((Keeps.setCell _ (fun e => e rfl) v.m5).trans ((Keeps.setCell _ (fun e => e rfl) v.m6).trans (Keeps.setCell _ (fun e => e rfl) v.m7)))))))
/-- Lists of ints do not lie in a block that holds no ints. -/
theorem IntsK.fill8 {K : Nat → Prop} {w : World} {B : Nat} {T : TypeId} (h : w.heap[B]? = some (.cells zeroM T (0, 0))) (v : Mv) {u : Value} {l : List Int} (hu : IntsK K w u l) : IntsK K (Go.Proofs.YtinljaobdnkifaaDoor.fill8 w B v) u l := by
  obtain ⟨A, c, rfl, h1, h0, h3⟩ := hu
  refine ⟨A, c, rfl, h1, h0, fun hl => ?_⟩
  obtain ⟨g, o, rfl, h4, h5⟩ := h3 hl
  refine ⟨g, o, rfl, h4, fun j hj => ?_⟩
  have e := h5 j hj
  by_cases hg : g = B
  · subst hg
    rcases Nat.lt_or_ge (o + j) 8 with h8 | h8
    · rw [(zeroed8 h _ h8).2] at e; cases e
    · simp only [World.cell?, h] at e
      have : zeroM[o + j]? = none := Array.getElem?_eq_none (by show 8 ≤ o + j; omega)
      rw [if_neg (by simp), this] at e
      cases e
  · exact ((fill8_keeps w B v).cell (p := ⟨g, o + j, none⟩) hg).trans e
theorem kept_fill8 {P : MP} {w : World} {x : MS} (h : Mk P w x) {B : Nat} {T : TypeId} (hB : B < P.W.heap.size) (hz : P.W.heap[B]? = some (.cells zeroM T (0, 0))) (v : Mv) : Kept P w (fill8 w B v) := by
  have hz' := (h.bel.block B hB).trans hz
  have hk := fill8_keeps w B v
  exact ⟨hk.mono fun k hk' => by have := hk'.1.1; omega, fun u l hu => (hu.fill8 hz' v).keep (.refl _ _) fun k hk' => Nat.lt_of_lt_of_le hk'.1 hk.size⟩
theorem below_fill8 {w0 w : World} {B : Nat} (h : Below w0.heap.size w0 w) (hB : w0.heap.size ≤ B) (v : Mv) : Below w0.heap.size w0 (fill8 w B v) :=
  (((((((h.setCell (by exact hB) _).setCell (by exact hB) _).setCell (by exact hB) _).setCell (by exact hB) _).setCell (by exact hB) _).setCell (by exact hB) _).setCell (by exact hB) _).setCell (by exact hB) _
end Go.Proofs.YtinljaobdnkifaaDoor
namespace Go.Proofs.YtinljaobdnkifaaDoor
open Go.RowKit

theorem Tryd.infoMem : (Tryd.prog.info? 57).map (fun i => (i.zero, i.size, i.bytes)) = some (some (.agg #[.int .i64 0, .int .i64 0]), 2, 16) := by kernel_rfl
theorem Tryd.infoExport : (Tryd.prog.info? 62).map (fun i => (i.zero, i.size, i.bytes)) = some (some (.agg #[.string ⟨#[]⟩, .int .i64 0, .int .i64 0]), 3, 32) := by kernel_rfl
theorem Tryd.infoFunc : (Tryd.prog.info? 44).map (fun i => (i.zero, i.size, i.bytes)) = some (some (.agg #[.int .i64 0, .slice none 0 0, .slice none 0 0]), 3, 56) := by kernel_rfl
/-- What the first part leaves: types, imports, globals; nothing else yet but memories. -/
structure First (P : MP) (W0 : World) (X0 : MS) (w : World) (x : MS) : Prop where
  md : Mk P w x
  st : MStep P W0 X0 w x
  m0 : x.m0 = X0.m0
  m1 : x.m1 = X0.m1
  m4 : x.m4 = X0.m4
  m6 : x.m6 = X0.m6
  fs : x.fs = X0.fs ∧ x.m2 = X0.m2
  es : x.es = X0.es ∧ x.m5 = X0.m5
theorem First.refl {P : MP} {w : World} {x : MS} (h : Mk P w x) : First P w x w x := ⟨h, .refl _ _ _, rfl, rfl, rfl, rfl, ⟨rfl, rfl⟩, ⟨rfl, rfl⟩⟩

/-- A memory as the maker makes it. -/
def goodM (m : Int × Int) : Prop := 1 ≤ m.1 ∧ m.1 ≤ 2 ∧ 2 ≤ m.2 ∧ m.2 ≤ 4
/-- What loop one wants of the memories' row. -/
structure Row3 (P : MP) (y : MS) (v : Value) (k : Nat) : Prop where
  cell : ∀ wz a, Mk P wz { y with at_ := a } → wz.cell? ⟨P.M, 3, none⟩ = some v
  own : ∀ wz a, Mk P wz { y with at_ := a } → wz.ownsRow 0 57 2 v k (flatMm y.ms)
  push : ∀ wz a ob, Mk P wz { y with at_ := a } → (wz.alloc ob).cell? ⟨P.M, 3, none⟩ = some v ∧ ∀ w2, (wz.alloc ob).grownBy w2 v.ownBlock → w2.cell? ⟨P.M, 3, none⟩ = some v ∧ w2.frozen? ⟨P.M, 3, none⟩ = false
  more : ∀ wz a ob (m : Int × Int) w2 v' n xs, Mk P wz { y with at_ := a } → w2.ownsRow 0 57 2 v' n xs → n = k + 1 → xs = flatMm y.ms ++ mmCells m → (wz.alloc ob).grownBy w2 v.ownBlock → (v'.ownBlock = v.ownBlock ∨ v'.ownBlock = some (wz.alloc ob).heap.size) →
    Mk P (w2.setCell ⟨P.M, 3, none⟩ v') { y with at_ := a, m3 := v', ms := y.ms ++ [m] } ∧ MStep P wz { y with at_ := a } (w2.setCell ⟨P.M, 3, none⟩ v') { y with at_ := a, m3 := v', ms := y.ms ++ [m] }
theorem row3 {P : MP} {y : MS} {v : Value} {k : Nat} (hv : y.m3 = v) (hk : y.ms.length = k) : Row3 P y v k := by
  subst hv hk
  exact ⟨fun wz a h => h.cell 3, fun wz a h => h.mo, fun wz a ob h => h.pushf ob _ (fun k e => .inr (.inl e)) 3, fun wz a ob m w2 v' n xs h ho hn hx hg hat => h.pushM ob m ho hn hx hg hat⟩

/-- What one wants of the exports' row. -/
structure Row5 (P : MP) (y : MS) (v : Value) (k : Nat) : Prop where
  cell : ∀ wz a, Mk P wz { y with at_ := a } → wz.cell? ⟨P.M, 5, none⟩ = some v
  own : ∀ wz a, Mk P wz { y with at_ := a } → wz.ownsRow 0 62 3 v k (flatEx y.es)
  push : ∀ wz a ob, Mk P wz { y with at_ := a } → (wz.alloc ob).cell? ⟨P.M, 5, none⟩ = some v ∧ ∀ w2, (wz.alloc ob).grownBy w2 v.ownBlock → w2.cell? ⟨P.M, 5, none⟩ = some v ∧ w2.frozen? ⟨P.M, 5, none⟩ = false
  more : ∀ wz a ob (m : ByteArray × Int × Int) w2 v' n xs, Mk P wz { y with at_ := a } → w2.ownsRow 0 62 3 v' n xs → n = k + 1 → xs = flatEx y.es ++ exCells m → (wz.alloc ob).grownBy w2 v.ownBlock → (v'.ownBlock = v.ownBlock ∨ v'.ownBlock = some (wz.alloc ob).heap.size) →
    Mk P (w2.setCell ⟨P.M, 5, none⟩ v') { y with at_ := a, m5 := v', es := y.es ++ [m] } ∧ MStep P wz { y with at_ := a } (w2.setCell ⟨P.M, 5, none⟩ v') { y with at_ := a, m5 := v', es := y.es ++ [m] }
theorem row5 {P : MP} {y : MS} {v : Value} {k : Nat} (hv : y.m5 = v) (hk : y.es.length = k) : Row5 P y v k := by
  subst hv hk
  exact ⟨fun wz a h => h.cell 5, fun wz a h => h.eo, fun wz a ob h => h.pushf ob _ (fun k e => .inr (.inr e)) 5, fun wz a ob m w2 v' n xs h ho hn hx hg hat => h.pushE ob m ho hn hx hg hat⟩

/-- What one wants of the functions' row. -/
structure Row2 (P : MP) (y : MS) (v : Value) (k : Nat) : Prop where
  cell : ∀ wz a, Mk P wz { y with at_ := a } → wz.cell? ⟨P.M, 2, none⟩ = some v
  own : ∀ wz a, Mk P wz { y with at_ := a } → wz.ownsRow 0 44 3 v k (flatFn y.fs)
  push : ∀ wz a ob, Mk P wz { y with at_ := a } → (wz.alloc ob).cell? ⟨P.M, 2, none⟩ = some v ∧ ∀ w2, (wz.alloc ob).grownBy w2 v.ownBlock → w2.cell? ⟨P.M, 2, none⟩ = some v ∧ w2.frozen? ⟨P.M, 2, none⟩ = false
  more : ∀ wz a ob (m : Int × Value × Value) w2 v' n xs, Mk P wz { y with at_ := a } → w2.ownsRow 0 44 3 v' n xs → n = k + 1 → xs = flatFn y.fs ++ fnCells m → (wz.alloc ob).grownBy w2 v.ownBlock → (v'.ownBlock = v.ownBlock ∨ v'.ownBlock = some (wz.alloc ob).heap.size) →
    Mk P (w2.setCell ⟨P.M, 2, none⟩ v') { y with at_ := a, m2 := v', fs := y.fs ++ [m] } ∧ MStep P wz { y with at_ := a } (w2.setCell ⟨P.M, 2, none⟩ v') { y with at_ := a, m2 := v', fs := y.fs ++ [m] }
theorem row2 {P : MP} {y : MS} {v : Value} {k : Nat} (hv : y.m2 = v) (hk : y.fs.length = k) : Row2 P y v k := by
  subst hv hk
  exact ⟨fun wz a h => h.cell 2, fun wz a h => h.fo, fun wz a ob h => h.pushf ob _ (fun k e => .inl e) 2, fun wz a ob m w2 v' n xs h ho hn hx hg hat => h.pushF ob m ho hn hx hg hat⟩

/-- A literal row of bytes that is converted to its own type is marked. -/
def mbyt (x : Nat) : Value := .int .u8 (x : Int)
def mmark (w : World) (l : List Nat) : World := (w.alloc (.cells (l.map mbyt).toArray 5)).freeze ⟨w.heap.size, l.length, none⟩ 1
theorem conv_made (w : World) (l : List Nat) (n c : Nat) : (convert 58 58 (.slice (some ⟨w.heap.size, 0, none⟩) n c)).run Tryd.prog (w.alloc (.cells (l.map mbyt).toArray 5)) = .ok (.slice (some ⟨w.heap.size, 0, none⟩) n c) (mmark w l) := by
  have hsh : (w.alloc (.cells (l.map mbyt).toArray 5)).shape? w.heap.size = some (5, l.length) := by
    simp [World.shape?, World.alloc, -World.alloc_eq]
  simp [convert, run_underlying Tryd.underlying58, run_underlying Tryd.underlying5, markStringish, mmark, hsh, Result.andThen]
theorem below_mmark (w : World) (l : List Nat) : Below w.heap.size w (mmark w l) := by
  unfold mmark
  exact Lib.below_freeze ((Below.refl _ _).alloc (Nat.le_refl _) _) (p := ⟨w.heap.size, _, none⟩) (Nat.le_refl _) 1
theorem conv_active (w : World) : (convert 58 58 (.slice (some ⟨w.heap.size, 0, none⟩) 6 6)).run Tryd.prog (w.alloc (.cells #[.int .u8 97, .int .u8 99, .int .u8 116, .int .u8 105, .int .u8 118, .int .u8 101] 5)) = .ok (.slice (some ⟨w.heap.size, 0, none⟩) 6 6) (mmark w [97, 99, 116, 105, 118, 101]) := conv_made w [97, 99, 116, 105, 118, 101] 6 6
theorem conv_passive (w : World) : (convert 58 58 (.slice (some ⟨w.heap.size, 0, none⟩) 7 7)).run Tryd.prog (w.alloc (.cells #[.int .u8 112, .int .u8 97, .int .u8 115, .int .u8 115, .int .u8 105, .int .u8 118, .int .u8 101] 5)) = .ok (.slice (some ⟨w.heap.size, 0, none⟩) 7 7) (mmark w [112, 97, 115, 115, 105, 118, 101]) := conv_made w [112, 97, 115, 115, 105, 118, 101] 7 7
/-- The world behind the datas' literal. -/
def dataW (w : World) (a b : Int) : World := (mmark (mmark w [97, 99, 116, 105, 118, 101]) [112, 97, 115, 115, 105, 118, 101]).alloc (.cells #[.bool true, .int .i64 a, .int .i64 b, .slice (some ⟨w.heap.size, 0, none⟩) 6 6, .bool false, .int .i64 0, .int .i64 0, .slice (some ⟨(mmark w [97, 99, 116, 105, 118, 101]).heap.size, 0, none⟩) 7 7] 60)
theorem below_dataW (w : World) (a b : Int) : Below w.heap.size w (dataW w a b) := below_new (below_then (below_mmark w _) (below_mmark _ _)) _
theorem mmark_at (w : World) (l : List Nat) : (mmark w l).heap[w.heap.size]? = some (.cells (l.map mbyt).toArray 5 (l.length, l.length + 1)) := by
  simp [mmark, World.freeze, World.alloc, -World.alloc_eq, Array.getElem_modify]
theorem mmark_size (w : World) (l : List Nat) : (mmark w l).heap.size = w.heap.size + 1 := by
  simp [mmark, World.freeze, World.alloc, -World.alloc_eq]
theorem datasK_nil (K : Nat → Prop) (w : World) : DatasK K w (.slice none 0 0) [] := ⟨none, 0, rfl, Nat.le_refl _, Nat.zero_le _, fun _ => rfl, fun h => absurd h (Nat.lt_irrefl 0)⟩
/-- What the datas' literal reads as. -/
theorem dataW_read {P : MP} {w : World} {x : MS} (h : Mk P w x) (a b : Nat) : DatasK (still P x (dataW w a b)) (dataW w a b) (.slice (some ⟨(mmark (mmark w [97, 99, 116, 105, 118, 101]) [112, 97, 115, 115, 105, 118, 101]).heap.size, 0, none⟩) 2 2) [⟨true, (a : Int), (b : Int), actB⟩, ⟨false, 0, 0, pasB⟩] := by
  obtain ⟨l1, l2, l3⟩ := h.lts
  have hw := h.bel.size
  have e1 := mmark_size w [97, 99, 116, 105, 118, 101]
  have e2 := mmark_size (mmark w [97, 99, 116, 105, 118, 101]) [112, 97, 115, 115, 105, 118, 101]
  have e3 : (dataW w a b).heap.size = w.heap.size + 3 := by unfold dataW; simp [e1, e2]
  have hst : ∀ k, w.heap.size ≤ k → k < w.heap.size + 3 → still P x (dataW w a b) k := fun k h1 h2 => ⟨⟨by omega, by omega⟩, by omega, by omega, fun e => by have := l3 k e; omega⟩
  have b1 : (dataW w a b).heap[w.heap.size]? = some (.cells (([97, 99, 116, 105, 118, 101] : List Nat).map mbyt).toArray 5 (6, 7)) := by
    unfold dataW
    rw [Below.heap_alloc _ _ _ (by omega), (below_mmark (mmark w [97, 99, 116, 105, 118, 101]) [112, 97, 115, 115, 105, 118, 101]).block _ (by omega)]
    exact mmark_at w _
  have b2 : (dataW w a b).heap[w.heap.size + 1]? = some (.cells (([112, 97, 115, 115, 105, 118, 101] : List Nat).map mbyt).toArray 5 (7, 8)) := by
    unfold dataW
    rw [Below.heap_alloc _ _ _ (by omega), ← e1]
    exact mmark_at (mmark w [97, 99, 116, 105, 118, 101]) _
  have b3 : (dataW w a b).heap[w.heap.size + 2]? = some (.cells #[.bool true, .int .i64 (a : Int), .int .i64 (b : Int), .slice (some ⟨w.heap.size, 0, none⟩) 6 6, .bool false, .int .i64 0, .int .i64 0, .slice (some ⟨w.heap.size + 1, 0, none⟩) 7 7] 60 (0, 0)) := by
    have h9 := heap_alloc_new (mmark (mmark w [97, 99, 116, 105, 118, 101]) [112, 97, 115, 115, 105, 118, 101]) (.cells #[.bool true, .int .i64 (a : Int), .int .i64 (b : Int), .slice (some ⟨w.heap.size, 0, none⟩) 6 6, .bool false, .int .i64 0, .int .i64 0, .slice (some ⟨(mmark w [97, 99, 116, 105, 118, 101]).heap.size, 0, none⟩) 7 7] 60)
    rw [e2, e1] at h9
    unfold dataW
    rw [e1]
    exact h9
  rw [e2, e1]
  generalize dataW w a b = W at *
  have c1 : BytesK (still P x W) W (.slice (some ⟨w.heap.size, 0, none⟩) 6 6) actB := ⟨_, 6, rfl, by decide, by decide, (fun h => by cases h), fun _ => ⟨w.heap.size, 0, rfl, hst _ (by omega) (by omega), fun j hj => by
    simp only [World.cell?, b1]
    have hj6 : j < 6 := hj
    rcases (show j = 0 ∨ j = 1 ∨ j = 2 ∨ j = 3 ∨ j = 4 ∨ j = 5 by omega) with rfl | rfl | rfl | rfl | rfl | rfl <;> rfl⟩⟩
  have c2 : BytesK (still P x W) W (.slice (some ⟨w.heap.size + 1, 0, none⟩) 7 7) pasB := ⟨_, 7, rfl, by decide, by decide, (fun h => by cases h), fun _ => ⟨w.heap.size + 1, 0, rfl, hst _ (by omega) (by omega), fun j hj => by
    simp only [World.cell?, b2]
    have hj7 : j < 7 := hj
    rcases (show j = 0 ∨ j = 1 ∨ j = 2 ∨ j = 3 ∨ j = 4 ∨ j = 5 ∨ j = 6 by omega) with rfl | rfl | rfl | rfl | rfl | rfl | rfl <;> rfl⟩⟩
  refine ⟨_, 2, rfl, Nat.le_refl _, by unfold maxLen; omega, (fun h => by cases h), fun _ => ⟨w.heap.size + 2, 0, rfl, hst _ (by omega) (by omega), fun j i hj hi => ?_⟩⟩
  have hj2 : j < 2 := hj
  rcases (show j = 0 ∨ j = 1 by omega) with rfl | rfl <;> rcases (show i = 0 ∨ i = 1 ∨ i = 2 ∨ i = 3 by omega) with rfl | rfl | rfl | rfl <;> refine ⟨_, by simp only [World.cell?, b3]; rfl, ?_⟩ <;> first | exact c1 | exact c2 | rfl
theorem ds_step {P : MP} {w w' : World} {x x' : MS} {nm : Nat} (hs : MStep P w x w' x') (h6 : x'.m6 = x.m6) (h : ∃ ds, DatasK (still P x w) w x.m6 ds ∧ datsOk nm ds) : ∃ ds, DatasK (still P x' w') w' x'.m6 ds ∧ datsOk nm ds := by
  obtain ⟨ds, h1, h2⟩ := h
  exact ⟨ds, by rw [h6]; exact DatasK.keep h1 hs.keeps hs.mono, h2⟩
/-- What lies behind the datas. -/
structure Second (P : MP) (W0 : World) (X0 : MS) (nm : Nat) (w : World) (x : MS) : Prop where
  md : Mk P w x
  st : MStep P W0 X0 w x
  m0 : x.m0 = X0.m0
  m1 : x.m1 = X0.m1
  m4 : x.m4 = X0.m4
  fs : x.fs = X0.fs ∧ x.m2 = X0.m2
  ms : x.ms.length = nm ∧ ∀ m ∈ x.ms, goodM m
  ds : ∃ ds, DatasK (still P x w) w x.m6 ds ∧ datsOk nm ds
  es : x.es = mexp nm

def FnOk (K : Nat → Prop) (w : World) (f : Int × Value × Value) : Prop := 0 ≤ f.1 ∧ f.1 < 9 ∧ f.2.2 = .slice none 0 0 ∧ ∃ ll : List Int, ll.length ≤ 3 ∧ IntsK K w f.2.1 ll ∧ ∀ t ∈ ll, kind3 t
theorem FnOk.step {P : MP} {w w' : World} {x x' : MS} {f : Int × Value × Value} (h : FnOk (still P x w) w f) (hs : MStep P w x w' x') : FnOk (still P x' w') w' f := by
  obtain ⟨h1, h2, h3, ll, h4, h5, h6⟩ := h
  exact ⟨h1, h2, h3, ll, h4, hs.ints h5, h6⟩
theorem Inn.ints {P : MP} {W w : World} {z : MS} {ty : Int} {a : Nat} {lv : Value} {ll : List Int} (h : Inn P W z ty w a lv ll) (hl : ll.length ≤ 1000000) : IntsK (still P { z with at_ := a } w) w lv ll :=
  owns_ints_at h.ow hl fun g hg hlt => h.stl (Nat.le_of_lt (h.lp g hg)) hlt a
/-- What lies while functions are made, without code yet. -/
structure Third (P : MP) (W0 : World) (X0 : MS) (nm n : Nat) (E : List (ByteArray × Int × Int)) (w : World) (x : MS) : Prop where
  md : Mk P w x
  st : MStep P W0 X0 w x
  m0 : x.m0 = X0.m0
  m1 : x.m1 = X0.m1
  m4 : x.m4 = X0.m4
  fs : x.fs.length = n ∧ ∀ f ∈ x.fs, FnOk (still P x w) w f
  ms : x.ms.length = nm ∧ ∀ m ∈ x.ms, goodM m
  ds : ∃ ds, DatasK (still P x w) w x.m6 ds ∧ datsOk nm ds
  es : x.es = E
theorem lit3k (r : Nat) (hr : r < 3) : ∃ v : Int, kind3 v ∧ #[Value.int .i64 127, .int .i64 126, .int .i64 124][r]? = some (.int .i64 v) := by
  match r with
  | 0 => exact ⟨_, .inl rfl, rfl⟩
  | 1 => exact ⟨_, .inr (.inl rfl), rfl⟩
  | 2 => exact ⟨_, .inr (.inr rfl), rfl⟩

theorem Third.fourth {P : MP} {W0 : World} {X0 : MS} {nm n r : Nat} {w : World} {x : MS} (h : Third P W0 X0 nm n (mexp nm ++ fexp n ++ [(globName, 3, (r : Int))]) w x) (hm : nm ≤ 3) : Fourth P W0 X0 nm n 0 r w x :=
  ⟨h.md, h.st, h.m0, h.m1, h.m4, ⟨h.fs.1, fun j f hf => by
    obtain ⟨h1, h2, h3, ll, h4, h5, h6⟩ := h.fs.2 f (List.mem_of_getElem? hf)
    exact ⟨⟨h1, h2⟩, ⟨ll, h4, h5, h6⟩, [], Nat.zero_le _, ⟨none, 0, h3, Nat.le_refl _, Nat.zero_le _, fun _ => rfl, fun h => absurd h (Nat.lt_irrefl 0)⟩, fun iv hiv => by simp at hiv, fun h => absurd h (Nat.not_lt_zero _)⟩⟩, ⟨h.ms.1, hm, h.ms.2⟩, h.ds, h.es⟩
theorem box_pre {w : World} {G : Nat} {cs : Array Value} {t : TypeId} (h : w.heap[G]? = some (.cells cs t (0, 0))) (p r : Value) (ob : Obj) :
    (((w.setCell ⟨G, 10, none⟩ p).setCell ⟨G, 11, none⟩ r).alloc ob).heap[G]? = some (.cells ((cs.setIfInBounds 10 p).setIfInBounds 11 r) t (0, 0)) := by
  have h1 := heap_setCell_at w G 10 cs t p h
  have h2 := heap_setCell_at _ G 11 _ t r h1
  exact (Below.heap_alloc _ ob _ (Array.getElem?_eq_some_iff.1 h2).1).trans h2
/-- What the maker leaves: a module as it makes it, in memory. -/
def ModPost (w : World) (e : Ending) (w' : World) : Prop := ∃ v m, e = .returned (.agg v.cells) ∧ MadeM m ∧ ModAt (fun k => k < w'.heap.size) w' v m ∧ Below w.heap.size w w'

set_option maxRecDepth 100000 in
set_option maxHeartbeats 4000000 in
theorem module_any (w : World) (tv : Value) (tl : List Int) (htl : IntsK (fun k => k < w.heap.size) w tv tl) :
    Calls Tryd.prog 4 #[tv] w (ModPost w) := by
  obtain ⟨At, ct, htv, _, _⟩ := htl.form
  have HTL := Lib.hid htl
  clear htl
  rw [htv] at HTL ⊢
  clear htv
  generalize tl.length = ntl at *
  go_enter Tryd.func4, Tryd.ntmps4
  go_wp2_with fail
  go_at_call 11
  refine (types_any _).mono ?_
  rintro e W2 ⟨rfl, hW2⟩
  obtain ⟨W1, hW1⟩ : ∃ W1, W1 = (w.alloc (.cells zeroM 32)).alloc (.cells #[.slice At ntl ct, .int .i64 0] 50) := ⟨_, rfl⟩
  have hW2' : W2 = (tyObjs W1.heap.size).foldl World.alloc W1 := by rw [hW1]; exact hW2
  have hs1 : W1.heap.size = w.heap.size + 2 := by rw [hW1]; simp
  obtain ⟨X0, hX0⟩ : ∃ X0 : MS, X0 = ⟨.slice (some ⟨W1.heap.size + 14, 0, none⟩) 9 9, .slice none 0 0, .slice none 0 0, .slice none 0 0, .slice none 0 0, .slice none 0 0, .slice none 0 0, 0, [], [], []⟩ := ⟨_, rfl⟩
  obtain ⟨P, hP⟩ : ∃ P : MP, P = ⟨w.alloc (.cells zeroM 32), W2.heap.size, w.heap.size + 1, .slice At ntl ct, tl⟩ := ⟨_, rfl⟩
  obtain ⟨hk0, hty⟩ := mk_start w _ tl HTL.out W1 W2 hW1 hW2' X0 hX0 P hP
  have hW1' : (w.alloc (.cells #[.slice none 0 0, .slice none 0 0, .slice none 0 0, .slice none 0 0, .slice none 0 0, .slice none 0 0, .slice none 0 0, .slice none 0 0] 32)).alloc (.cells #[.slice At ntl ct, .int .i64 0] 50) = W1 := hW1.symm
  rw [hW1']
  have hPM : P.M = W2.heap.size := by rw [hP]
  have hPT : P.T = w.heap.size + 1 := by rw [hP]
  have HPW : Hid (P.W = w.alloc (.cells zeroM 32)) := by rw [Hid, hP]
  have HTY := Lib.hid hty
  have HK0 := Lib.hid hk0
  have HPM := Lib.hid hPM
  have HPT := Lib.hid hPT
  have HX0 := Lib.hid hX0
  clear hs1 hk0 hty hW1 hW1' hW2 hW2' hP hX0 hPM hPT
  go_upto_region 3 with (fail)
  have hW3 : W2.alloc (.cells #[.slice (some ⟨W1.heap.size + 14, 0, none⟩) 9 9, .slice none 0 0, .slice none 0 0, .slice none 0 0, .slice none 0 0, .slice none 0 0, .slice none 0 0, .slice none 0 0] 32) = W2.alloc (.cells (mcells X0) 32) := by rw [HX0.out]; rfl
  rw [hW3]
  clear hW3
  generalize W2.alloc (.cells (mcells X0) 32) = w3 at HTY HK0 ⊢
  rw [← HPM.out, ← HPT.out]
  obtain ⟨ha3, hs3⟩ := HK0.out.below ((Below.refl _ _).alloc (Nat.le_refl _) (.cells impL 40))
  have hi3 := cells_lit HK0.out impL 40 2 3 (fun j i u => impCell (twoImps.getD j (ByteArray.empty, ByteArray.empty, 0)) i u) (by omega) (by omega) (fun j i hj hi => imp_cells j i hj hi)
  obtain ⟨hb3, ht3⟩ := ha3.set1 (.slice (some ⟨w3.heap.size, 0, none⟩) 2 2)
  have f3 : (w3.alloc (.cells #[.string ⟨#[104, 111, 115, 116]⟩, .string ⟨#[111, 110, 101]⟩, .int .i64 1, .string ⟨#[104, 111, 115, 116]⟩, .string ⟨#[116, 119, 111]⟩, .int .i64 7] 40)).frozen? ⟨P.M, 1, none⟩ = false := ha3.frozen 1
  have g3 : (w3.alloc (.cells #[.string ⟨#[104, 111, 115, 116]⟩, .string ⟨#[111, 110, 101]⟩, .int .i64 1, .string ⟨#[104, 111, 115, 116]⟩, .string ⟨#[116, 119, 111]⟩, .int .i64 7] 40)).cell? ⟨P.M, 1, none⟩ = some X0.m1 := ha3.cell 1
  have HI3 := Lib.hid (ht3.cells hi3)
  have HB3 := Lib.hid hb3
  have HS3 := Lib.hid (hs3.trans ht3)
  clear ha3 hs3 hi3 hb3 ht3
  go_upto_region 4 with (fail)
  clear f3 g3
  have hw4 : (w3.alloc (.cells #[.string ⟨#[104, 111, 115, 116]⟩, .string ⟨#[111, 110, 101]⟩, .int .i64 1, .string ⟨#[104, 111, 115, 116]⟩, .string ⟨#[116, 119, 111]⟩, .int .i64 7] 40)).setCell ⟨P.M, 1, none⟩ (.slice (some ⟨w3.heap.size, 0, none⟩) 2 2) = (w3.alloc (.cells impL 40)).setCell ⟨P.M, 1, none⟩ (.slice (some ⟨w3.heap.size, 0, none⟩) 2 2) := rfl
  rw [hw4]
  clear hw4
  generalize (w3.alloc (.cells impL 40)).setCell ⟨P.M, 1, none⟩ (.slice (some ⟨w3.heap.size, 0, none⟩) 2 2) = w4 at HI3 HB3 HS3 ⊢
  obtain ⟨X4, hX4⟩ : ∃ X4 : MS, X4 = { X0 with m1 := .slice (some ⟨w3.heap.size, 0, none⟩) 2 2 } := ⟨_, rfl⟩
  rw [← hX4] at HI3 HB3 HS3
  obtain ⟨ha4, hs4⟩ := HB3.out.below ((Below.refl _ _).alloc (Nat.le_refl _) (.cells globL 54))
  have hi4 := cells_lit HB3.out globL 54 4 3 (fun j i u => globCell (fourGlobs.getD j (0, false, 0)) i u) (by omega) (by omega) (fun j i hj hi => glob_cells j i hj hi)
  obtain ⟨hb4, ht4⟩ := ha4.set4 (.slice (some ⟨w4.heap.size, 0, none⟩) 4 4)
  have f4 : (w4.alloc (.cells #[.int .i64 127, .bool true, .int .u64 5, .int .i64 126, .bool true, .int .u64 1099511627776, .int .i64 124, .bool true, .int .u64 4611686018427387904, .int .i64 127, .bool false, .int .u64 9] 54)).frozen? ⟨P.M, 4, none⟩ = false := ha4.frozen 4
  have g4 : (w4.alloc (.cells #[.int .i64 127, .bool true, .int .u64 5, .int .i64 126, .bool true, .int .u64 1099511627776, .int .i64 124, .bool true, .int .u64 4611686018427387904, .int .i64 127, .bool false, .int .u64 9] 54)).cell? ⟨P.M, 4, none⟩ = some X4.m4 := ha4.cell 4
  have HI4 := Lib.hid (ht4.cells hi4)
  have HJ4 := Lib.hid ((hs4.trans ht4).cells HI3.out)
  have HB4 := Lib.hid hb4
  have HS4 := Lib.hid (HS3.out.trans (hs4.trans ht4))
  clear ha4 hs4 hi4 hb4 ht4 HI3 HB3 HS3
  go_upto_region 5 with (fail)
  clear f4 g4
  have hw5 : (w4.alloc (.cells #[.int .i64 127, .bool true, .int .u64 5, .int .i64 126, .bool true, .int .u64 1099511627776, .int .i64 124, .bool true, .int .u64 4611686018427387904, .int .i64 127, .bool false, .int .u64 9] 54)).setCell ⟨P.M, 4, none⟩ (.slice (some ⟨w4.heap.size, 0, none⟩) 4 4) = (w4.alloc (.cells globL 54)).setCell ⟨P.M, 4, none⟩ (.slice (some ⟨w4.heap.size, 0, none⟩) 4 4) := rfl
  rw [hw5]
  clear hw5
  generalize (w4.alloc (.cells globL 54)).setCell ⟨P.M, 4, none⟩ (.slice (some ⟨w4.heap.size, 0, none⟩) 4 4) = w5 at HI4 HJ4 HB4 HS4 ⊢
  obtain ⟨X5, hX5⟩ : ∃ X5 : MS, X5 = { X4 with m4 := .slice (some ⟨w4.heap.size, 0, none⟩) 4 4 } := ⟨_, rfl⟩
  rw [← hX5] at HI4 HJ4 HB4 HS4
  have HE5 : Hid (X5.m0 = X0.m0 ∧ X5.m1 = .slice (some ⟨w3.heap.size, 0, none⟩) 2 2 ∧ X5.m4 = .slice (some ⟨w4.heap.size, 0, none⟩) 4 4 ∧ X5.fs = [] ∧ X5.es = [] ∧ X5.ms = [] ∧ X5.m2 = .slice none 0 0 ∧ X5.m3 = .slice none 0 0 ∧ X5.m5 = .slice none 0 0 ∧ X5.m6 = .slice none 0 0) := by rw [Hid, hX5, hX4, HX0.out]; exact ⟨rfl, rfl, rfl, rfl, rfl, rfl, rfl, rfl, rfl, rfl⟩
  have HM0 : Hid (X5.m0 = .slice (some ⟨W1.heap.size + 14, 0, none⟩) 9 9) := by rw [Hid, HE5.out.1, HX0.out]
  have HTY5 := Lib.hid (HS4.out.types HTY.out)
  clear hX4 hX5 HK0 HTY HX0 HPM HS4
  go_wp2_with fail
  go_at_call 12
  refine (mk_next HB4.out 4 (by omega) (by omega)).mono ?_
  rintro e w6 ⟨nm, hnm, rfl, a6, hk6, hs6⟩
  have H6 := Lib.hid hk6
  have HS6 := Lib.hid hs6
  clear hk6 hs6
  go_wp2_with fail
  have HF6 : Hid (First P w5 X5 w6 { X5 with at_ := a6 }) := Lib.hid ⟨H6.out, HS6.out, rfl, rfl, rfl, rfl, ⟨rfl, rfl⟩, ⟨rfl, rfl⟩⟩
  have HM6 : Hid (({ X5 with at_ := a6 } : MS).ms.length = 0 ∧ ∀ m ∈ ({ X5 with at_ := a6 } : MS).ms, goodM m) := by rw [Hid, show ({ X5 with at_ := a6 } : MS).ms = [] from HE5.out.2.2.2.2.2.1]; exact ⟨rfl, by simp⟩
  clear H6 HS6
  go_loopw [6] (fun i wr => ∃ (k : Nat) (y : MS), k ≤ nm ∧ i = .int .i64 (k : Int) ∧ Hid (First P w5 X5 wr y) ∧ Hid (y.ms.length = k ∧ ∀ m ∈ y.ms, goodM m)) (fun i _ => nm - (intOf i).toNat)
  case atStart => exact ⟨0, _, Nat.zero_le _, rfl, HF6, HM6⟩
  case round =>
    clear HF6 HM6
    obtain ⟨k, y, hk, rfl, HF, HMM⟩ := hrel
    by_cases hlt : k < nm
    · have hd0 : decide ((k : Int) < (nm : Int)) = true := by simp; omega
      obtain ⟨A3, c3, hy3⟩ := owns_slice HF.out.md.mo
      rw [HMM.out.1] at hy3
      have HRW := Lib.hid (row3 (P := P) hy3 HMM.out.1)
      clear hy3
      have d3 := HRW.out.cell _ _ HF.out.md
      have hk1M : k + 1 ≤ 1000000 := by omega
      go_wp2_with fail
      go_region_law (first
        | (refine step_append_row rfl (.tmp 36) (.tmp 44) 26 57 rfl _ 2 16 Tryd.underlying26 Tryd.infoMem rfl (by decide) (by decide) (.slice A3 k c3) k (flatMm y.ms) (by rfl) ((HRW.out.own _ _ hk8).alloc _) _ 1 (mmCells (1 + (r7 : Int), 2 + (r8 : Int))) (by rfl) (by rfl) (news_new w8 _ _ 1 1) (by simp [mmCells, Value.oneCell']) hk1M ?_; intro v9 w9 ho9 hg9 hat9; obtain ⟨e9, f9⟩ := (HRW.out.push _ _ _ hk8).2 w9 hg9; obtain ⟨B9, k9, rfl⟩ := owns_slice ho9)
        | (go_simp; go_at_call 12; refine (mk_next hk7 3 (by decide) (by decide)).mono ?_; rintro e w8 ⟨r8, hr8, rfl, a8, hk8, hs8⟩; have d8 := HRW.out.cell _ _ hk8; have d8b := (HRW.out.push _ _ (.cells #[.int .i64 (1 + (r7 : Int)), .int .i64 (2 + (r8 : Int))] 57) hk8).1; have e8 : IntKind.i64.wrap (2 + (r8 : Int)) = 2 + (r8 : Int) := IntWalk.i64_in _ (by clear e7; omega); go_wp2_with fail)
        | (go_simp; go_at_call 12; refine (mk_next HF.out.md.drew.1 2 (by omega) (by omega)).mono ?_; rintro e w7 ⟨r7, hr7, rfl, a7, hk7, hs7⟩; have d7 := HRW.out.cell _ _ hk7; have e7 : IntKind.i64.wrap (1 + (r7 : Int)) = 1 + (r7 : Int) := IntWalk.i64_in _ (by omega); go_wp2_with fail))
      all_goals
        have hps := HRW.out.more _ _ _ (1 + (r7 : Int), 2 + (r8 : Int)) w9 _ _ _ hk8 ho9 rfl rfl hg9 hat9
        have HPS := Lib.hid hps
        have HS9 := Lib.hid (HF.out.md.drew.2.trans (hs7.trans (hs8.trans hps.2)))
        clear hps ho9 hg9 hat9 e9 f9 e7 e8 hk7 hs7 hk8 hs8
        go_wp2
        go_roundw
        case rel =>
          refine ⟨k + 1, _, by omega, by go_num, Lib.hid ⟨HPS.out.1, HF.out.st.trans HS9.out, HF.out.m0, HF.out.m1, HF.out.m4, HF.out.m6, HF.out.fs, HF.out.es⟩, Lib.hid ⟨?_, fun m hm => ?_⟩⟩
          · show (y.ms ++ [_]).length = k + 1; rw [List.length_append, HMM.out.1]; rfl
          · rcases List.mem_append.1 hm with h | h
            · exact HMM.out.2 m h
            · obtain rfl := List.mem_singleton.1 h; exact ⟨by show 1 ≤ 1 + (r7 : Int); omega, by show 1 + (r7 : Int) ≤ 2; omega, by show 2 ≤ 2 + (r8 : Int); omega, by show 2 + (r8 : Int) ≤ 4; omega⟩
        case measure => simp [intOf]; omega
    · obtain rfl : k = nm := by omega
      have hd0 : decide ((k : Int) < (k : Int)) = false := by simp
      obtain ⟨w10, rfl⟩ : ∃ w10, w10 = wr := ⟨_, rfl⟩
      clear hlt hk
      have HG := HF
      have HES0 : Hid (y.es = [] ∧ y.m5 = .slice none 0 0) := by rw [Hid, HF.out.es.1, HF.out.es.2]; exact ⟨HE5.out.2.2.2.2.1, HE5.out.2.2.2.2.2.2.2.2.1⟩
      have HM60 : Hid (y.m6 = .slice none 0 0) := by rw [Hid, HF.out.m6]; exact HE5.out.2.2.2.2.2.2.2.2.2
      go_upto_if 48 with (fail)
      go_cut [] from 13 to 69 (fun wx => ∃ z : MS, Hid (Second P w5 X5 k wx z))
      case first =>
        by_cases h0 : 0 < k
        case' neg =>
          have hd1 : decide ((0 : Int) < (k : Int)) = false := by simp; omega
          go_wp2
          go_meet
          exact ⟨y, Lib.hid ⟨HF.out.md, HF.out.st, HF.out.m0, HF.out.m1, HF.out.m4, HF.out.fs, HMM.out, ⟨[], by rw [HM60.out]; exact datasK_nil _ _, .inl ⟨by omega, rfl⟩⟩, by rw [HES0.out.1, mexp, if_neg h0]⟩⟩
        have hd1 : decide ((0 : Int) < (k : Int)) = true := by simp; omega
        go_wp2_with fail
        go_at_call 12
        refine (mk_next HF.out.md k h0 (by omega)).mono ?_
        rintro e w11 ⟨r11, hr11, rfl, a11, hk11, hs11⟩
        have H11 := Lib.hid hk11
        have HS11 := Lib.hid hs11
        clear hk11 hs11
        go_wp2_with fail
        go_at_call 12
        refine (mk_next H11.out 1000 (by omega) (by omega)).mono ?_
        rintro e w12 ⟨r12, hr12, rfl, a12, hk12, hs12⟩
        have hcv1 := conv_active w12
        have hcv2 := conv_passive (mmark w12 [97, 99, 116, 105, 118, 101])
        obtain ⟨hk13, hs13⟩ := hk12.below (below_dataW w12 (r11 : Int) (r12 : Int))
        have f13 := hk13.frozen 6
        have g13 : (dataW w12 (r11 : Int) (r12 : Int)).cell? ⟨P.M, 6, none⟩ = some y.m6 := hk13.cell 6
        have hdt := dataW_read hk12 r11 r12
        obtain ⟨hk14, hs14⟩ := hk13.set6 (.slice (some ⟨(mmark (mmark w12 [97, 99, 116, 105, 118, 101]) [112, 97, 115, 115, 105, 118, 101]).heap.size, 0, none⟩) 2 2)
        have HK14 := Lib.hid hk14
        have HDT := Lib.hid (DatasK.keep hdt hs14.keeps hs14.mono)
        have HS14 := Lib.hid (HS11.out.trans (hs12.trans (hs13.trans hs14)))
        clear hk12 hs12 hk13 hs13 hk14 hs14 H11 HS11 hdt
        have f13' := f13
        have g13' := g13
        unfold dataW at f13' g13'
        clear f13 g13
        go_upto_region 12 with (fail)
        clear f13' g13' hcv1 hcv2
        change Code.wp _ _ _ _ ((dataW w12 (r11 : Int) (r12 : Int)).setCell ⟨P.M, 6, none⟩ (.slice (some ⟨(mmark (mmark w12 [97, 99, 116, 105, 118, 101]) [112, 97, 115, 115, 105, 118, 101]).heap.size, 0, none⟩) 2 2))
        generalize (dataW w12 (r11 : Int) (r12 : Int)).setCell ⟨P.M, 6, none⟩ (.slice (some ⟨(mmark (mmark w12 [97, 99, 116, 105, 118, 101]) [112, 97, 115, 115, 105, 118, 101]).heap.size, 0, none⟩) 2 2) = w14 at HK14 HS14 HDT ⊢
        generalize (mmark (mmark w12 [97, 99, 116, 105, 118, 101]) [112, 97, 115, 115, 105, 118, 101]).heap.size = B14 at HK14 HS14 HDT ⊢
        obtain ⟨Y, hY⟩ : ∃ Y : MS, Y = { y with at_ := a12, m6 := .slice (some ⟨B14, 0, none⟩) 2 2 } := ⟨_, rfl⟩
        have H14 : Hid (Mk P w14 Y) := by rw [hY]; exact HK14
        have HD14 : Hid (DatasK (still P Y w14) w14 (.slice (some ⟨B14, 0, none⟩) 2 2) [⟨true, (r11 : Int), (r12 : Int), actB⟩, ⟨false, 0, 0, pasB⟩]) := by rw [hY]; exact HDT
        have HT14 : Hid (MStep P w10 y w14 Y) := by rw [hY]; exact HS14
        have HY : Hid (Y.m0 = y.m0 ∧ Y.m1 = y.m1 ∧ Y.m4 = y.m4 ∧ (Y.fs = y.fs ∧ Y.m2 = y.m2) ∧ Y.ms = y.ms ∧ Y.m6 = .slice (some ⟨B14, 0, none⟩) 2 2 ∧ Y.es = [] ∧ Y.m5 = .slice none 0 0) := by rw [Hid, hY]; exact ⟨rfl, rfl, rfl, ⟨rfl, rfl⟩, rfl, rfl, HES0.out.1, HES0.out.2⟩
        clear hY HK14 HS14 HDT
        have HRW := Lib.hid (row5 (P := P) (y := Y) HY.out.2.2.2.2.2.2.2 (by rw [HY.out.2.2.2.2.2.2.1]))
        have d5 := HRW.out.cell _ _ H14.out
        have d5b := (HRW.out.push _ _ (.cells #[.string memName, .int .i64 2, .int .i64 ((k : Int) - 1)] 62) H14.out).1
        unfold memName at d5b
        go_wp2_with (at_builtin; refine wpList_append_row rfl (.tmp 63) (.tmp 67) 28 62 rfl _ 3 32 Tryd.underlying28 Tryd.infoExport rfl (by decide) (by decide) (.slice none 0 0) 0 (flatEx Y.es) (by rfl) ((HRW.out.own _ _ H14.out).alloc _) _ 1 (exCells (memName, 2, (k : Int) - 1)) (by rfl) (by rfl) (news_new w14 _ _ 1 1) (by simp [exCells, Value.oneCell']) (by decide) ?_; intro v9 w9 ho9 hg9 hat9; obtain ⟨e9, f9⟩ := (HRW.out.push _ _ _ H14.out).2 w9 hg9; obtain ⟨B9, k9, rfl⟩ := owns_slice ho9)
        have hps := HRW.out.more _ _ _ (memName, 2, (k : Int) - 1) w9 _ _ _ H14.out ho9 rfl rfl hg9 hat9
        go_meet
        obtain ⟨z0, z1, z4, zf, zm, z6, ze, z5⟩ := HY.out
        exact ⟨_, Lib.hid ⟨hps.1, HF.out.st.trans (HT14.out.trans hps.2), z0.trans HF.out.m0, z1.trans HF.out.m1, z4.trans HF.out.m4, ⟨zf.1.trans HF.out.fs.1, zf.2.trans HF.out.fs.2⟩, by rw [show ({ Y with at_ := Y.at_, m5 := Value.slice B9 (0 + 1) k9, es := Y.es ++ [(memName, 2, (k : Int) - 1)] } : MS).ms = y.ms from zm]; exact HMM.out, ⟨_, by have h9 := DatasK.keep HD14.out hps.2.keeps hps.2.mono; rw [← z6] at h9; exact h9, .inr ⟨h0, r11, r12, hr11, hr12, rfl⟩⟩, by show Y.es ++ [_] = mexp k; rw [ze, mexp, if_pos h0]; rfl⟩⟩
      case rest =>
        obtain ⟨x15, HS15⟩ := hcut
        obtain ⟨w15, rfl⟩ : ∃ w15, w15 = wc := ⟨_, rfl⟩
        clear HF HG HMM HES0 HM60 hd0
        go_wp2_with fail
        go_at_call 12
        refine (mk_next HS15.out.md 4 (by omega) (by omega)).mono ?_
        rintro e w16 ⟨r16, hr16, rfl, a16, hk16, hs16⟩
        obtain ⟨nf, hnf⟩ : ∃ nf : Nat, nf = 1 + r16 := ⟨_, rfl⟩
        have e16 : IntKind.i64.wrap (1 + (r16 : Int)) = (nf : Int) := by rw [show (1 : Int) + (r16 : Int) = (nf : Int) by omega]; exact IntWalk.i64_in _ (by omega)
        have hnf4 : 0 < nf ∧ nf ≤ 4 := by omega
        have HS16 : Hid (Second P w5 X5 k w16 { x15 with at_ := a16 }) := Lib.hid ⟨hk16, HS15.out.st.trans hs16, HS15.out.m0, HS15.out.m1, HS15.out.m4, HS15.out.fs, HS15.out.ms, ds_step hs16 rfl HS15.out.ds, HS15.out.es⟩
        obtain ⟨X16, hX16⟩ : ∃ X16 : MS, X16 = { x15 with at_ := a16 } := ⟨_, rfl⟩
        rw [← hX16] at HS16
        clear hX16 hk16 hs16 HS15 hnf hr16
        go_wp2_with fail
        clear e16
        have HT0 : Hid (Third P w5 X5 k 0 (mexp k ++ fexp 0) w16 X16) := Lib.hid ⟨HS16.out.md, HS16.out.st, HS16.out.m0, HS16.out.m1, HS16.out.m4, by rw [HS16.out.fs.1, HE5.out.2.2.2.1]; exact ⟨rfl, by simp⟩, HS16.out.ms, HS16.out.ds, by rw [HS16.out.es]; simp [fexp]⟩
        clear HS16
        go_loopw [8] (fun i wr => ∃ (n : Nat) (z : MS), n ≤ nf ∧ i = .int .i64 (n : Int) ∧ Hid (Third P w5 X5 k n (mexp k ++ fexp n) wr z)) (fun i _ => nf - (intOf i).toNat)
        case atStart => exact ⟨0, _, Nat.zero_le _, rfl, HT0⟩
        case round =>
          clear HT0
          obtain ⟨n, z, hn, rfl, HZ⟩ := hrel
          obtain ⟨w20, rfl⟩ : ∃ w20, w20 = wr := ⟨_, rfl⟩
          by_cases hlt : n < nf
          · have hd0 : decide ((n : Int) < (nf : Int)) = true := by simp; omega
            have c0 : w20.cell? ⟨P.M, 0, none⟩ = some (.slice (some ⟨W1.heap.size + 14, 0, none⟩) 9 9) := by rw [← HM0.out, ← HZ.out.m0]; exact HZ.out.md.cell 0
            go_wp2_with fail
            go_at_call 12
            refine (mk_next HZ.out.md 9 (by omega) (by omega)).mono ?_
            rintro e w21 ⟨r21, hr21, rfl, a21, hk21, hs21⟩
            obtain ⟨Z, hZ⟩ : ∃ Z : MS, Z = { z with at_ := a21 } := ⟨_, rfl⟩
            rw [← hZ] at hk21 hs21
            have HZE : Hid (Z.m0 = z.m0 ∧ Z.m1 = z.m1 ∧ Z.m4 = z.m4 ∧ Z.fs = z.fs ∧ Z.ms = z.ms ∧ Z.m6 = z.m6 ∧ Z.es = z.es ∧ Z.at_ = a21) := by rw [Hid, hZ]; exact ⟨rfl, rfl, rfl, rfl, rfl, rfl, rfl, rfl⟩
            clear hZ
            obtain ⟨l1, l2, l3⟩ := hk21.lts
            obtain ⟨hka, hsa⟩ := hk21.below ((Below.refl _ _).alloc (Nat.le_refl _) (.cells #[.int .i64 (r21 : Int), .slice none 0 0, .slice none 0 0] 44))
            have HI0 : Hid (Inn P w21 Z (r21 : Int) (w21.alloc (.cells #[.int .i64 (r21 : Int), .slice none 0 0, .slice none 0 0] 44)) Z.at_ (.slice none 0 0) []) := Lib.hid ⟨hka, hsa, heap_alloc_new w21 _, World.ownsRow_nil _ _ _ _, (fun g h => by cases h), ⟨l3, l1, l2, hk21.bel.size⟩⟩
            have HK21 := Lib.hid hk21
            have HS21 := Lib.hid (HZ.out.st.trans hs21)
            have HMS := Lib.hid hs21
            clear hk21 hs21 hka hsa l1 l2 l3 c0
            go_wp2_with fail
            go_at_call 12
            refine (mk_next HI0.out.md 4 (by omega) (by omega)).mono ?_
            rintro e w22 ⟨r22, hr22, rfl, a22, hk22, hs22⟩
            have HI1 : Hid (Inn P w21 Z (r21 : Int) w22 a22 (.slice none 0 0) []) := Lib.hid (HI0.out.next hk22 hs22)
            clear hk22 hs22 HI0
            go_wp2_with fail
            go_loopw [10] (fun s wr => ∃ (j a : Nat) (lv : Value) (ll : List Int), j ≤ 3 ∧ s = .int .i64 (j : Int) ∧ ll.length + j ≤ 3 ∧ Hid (Inn P w21 Z (r21 : Int) wr a lv ll) ∧ Hid (∀ t ∈ ll, kind3 t)) (fun s _ => (intOf s).toNat)
            case atStart => exact ⟨r22, a22, _, [], by omega, rfl, by simp only [List.length_nil]; omega, HI1, Lib.hid (by simp)⟩
            case round =>
              clear HI1
              obtain ⟨j, a, lv, ll, hj, rfl, hlj, HI, HKL⟩ := hrel
              obtain ⟨Al, cl, rfl⟩ := owns_slice HI.out.ow
              obtain ⟨m, hm⟩ : ∃ m, ll.length = m := ⟨_, rfl⟩
              rw [hm] at HI hlj
              have HM := Lib.hid hm
              clear hm
              have HOW : Hid (∀ wz az, Inn P w21 Z (r21 : Int) wz az (.slice Al m cl) ll → wz.ownsRow 0 3 1 (.slice Al m cl) m (ll.map (Value.int .i64))) := fun wz az h => by have h9 := h.ow; rwa [HM.out] at h9
              by_cases h0 : 0 < j
              · have hd1 : decide ((0 : Int) < (j : Int)) = true := by simp; omega
                have hbL : Below wr.heap.size wr (wr.drew.alloc (.cells #[.int .i64 127, .int .i64 126, .int .i64 124] 3)) := below_new ((Below.refl _ _).drew) _
                have HID := Lib.hid (HI.out.below ((Below.refl _ _).drew))
                have HIL := Lib.hid (HI.out.below hbL)
                have d0 := HI.out.cell1.1
                have d0L := HIL.out.cell1.1
                have d0M := (HI.out.below ((Below.refl _ _).alloc (Nat.le_refl _) (.cells #[.int .i64 127, .int .i64 126, .int .i64 124] 3))).cell1.1
                clear hbL
                go_wp2_with fail
                go_region_law (first
                  | (refine step_append_row rfl (.tmp 91) (.tmp 97) 22 3 rfl _ 1 8 Tryd.underlying22 Tryd.infoInt rfl (by decide) (by decide) (.slice Al m cl) m (ll.map (Value.int .i64)) (by rfl) (((HOW.out _ _ HI23.out).alloc _).alloc _) _ 1 [.int .i64 t] (by rfl) (by rfl) hnw (ones_int [t]) (by omega) ?_; intro v9 w9 ho9 hg9 hat9; obtain ⟨e9, f9⟩ := HI23.out.pushf (below_new (Below.refl _ _) _) hg9; have HIP := Lib.hid (fun B9 k9 (hv : v9 = .slice B9 (m + 1) k9) => HI23.out.push (below_new (Below.refl _ _) _) _ t ho9 (by rw [HM.out]) rfl hg9 hat9); obtain ⟨B9, k9, hv9⟩ := owns_slice ho9)
                  | (refine step_append_row rfl (.tmp 91) (.tmp 97) 22 3 rfl _ 1 8 Tryd.underlying22 Tryd.infoInt rfl (by decide) (by decide) (.slice Al m cl) m (ll.map (Value.int .i64)) (by rfl) ((HOW.out _ _ HI24.out).alloc _) _ 1 [.int .i64 t] (by rfl) (by rfl) (news_new _ _ _ 1 1) (ones_int [t]) (by omega) ?_; intro v9 w9 ho9 hg9 hat9; obtain ⟨e9, f9⟩ := HI24.out.pushf (Below.refl _ _) hg9; have HIP := Lib.hid (fun B9 k9 (hv : v9 = .slice B9 (m + 1) k9) => HI24.out.push (Below.refl _ _) _ t ho9 (by rw [HM.out]) rfl hg9 hat9); obtain ⟨B9, k9, hv9⟩ := owns_slice ho9)
                  | (go_simp; go_at_call 12; refine (mk_next HID.out.md 3 (by decide) (by decide)).mono ?_; rintro e w23 ⟨r23, hr23, rfl, a23, hk23, hs23⟩; have HI23 := Lib.hid (HID.out.next hk23 hs23); obtain ⟨t, hkt, ht⟩ := lit3k r23 hr23; have hr3 : (r23 : Int) < 3 := (by omega); have hr0 : (0 : Int) ≤ (r23 : Int) := (by omega); have d1 := HI23.out.cell1.1; have d2 := (HI23.out.below ((Below.refl _ _).alloc (Nat.le_refl _) (.cells #[.int .i64 127, .int .i64 126, .int .i64 124] 3))).cell1.1; have d3 := (World.cell?_alloc_new w23 #[.int .i64 127, .int .i64 126, .int .i64 124] 3 r23).trans ht; have d4 := ((HI23.out.below ((Below.refl _ _).alloc (Nat.le_refl _) (.cells #[.int .i64 127, .int .i64 126, .int .i64 124] 3))).below ((Below.refl _ _).alloc (Nat.le_refl _) (.cells #[.int .i64 t] 3))).cell1.1; have hnw : News ((w23.alloc (.cells #[.int .i64 127, .int .i64 126, .int .i64 124] 3)).alloc (.cells #[.int .i64 t] 3)) (.slice (some ⟨w23.heap.size + 1, 0, none⟩) 1 1) 1 [.int .i64 t] := (by have h := news_new (w23.alloc (.cells #[.int .i64 127, .int .i64 126, .int .i64 124] 3)) #[.int .i64 t] 3 1 1; rw [show (w23.alloc (.cells #[.int .i64 127, .int .i64 126, .int .i64 124] 3)).heap.size = w23.heap.size + 1 by simp] at h; exact h); clear hk23 hs23; go_wp2_with fail)
                  | (go_simp; go_at_call 12; refine (mk_next HIL.out.md 3 (by decide) (by decide)).mono ?_; rintro e w24 ⟨r23, hr23, rfl, a23, hk23, hs23⟩; have HI24 := Lib.hid (HIL.out.next hk23 hs23); obtain ⟨t, hkt, ht⟩ := lit3k r23 hr23; have hr3 : (r23 : Int) < 3 := (by omega); have hr0 : (0 : Int) ≤ (r23 : Int) := (by omega); have d1 := HI24.out.cell1.1; have d3 := (hs23.keeps.cell (p := ⟨wr.heap.size, r23, none⟩) (HIL.out.stl (Nat.le_of_lt HI.out.f9lt) (by simp) _)).trans ((World.cell?_alloc_new wr.drew #[.int .i64 127, .int .i64 126, .int .i64 124] 3 r23).trans ht); have d4 := (HI24.out.below ((Below.refl _ _).alloc (Nat.le_refl _) (.cells #[.int .i64 t] 3))).cell1.1; clear hk23 hs23; go_wp2_with fail))
                all_goals
                  subst hv9
                  have hip := HIP.out _ _ rfl
                  have HIQ := Lib.hid hip
                  have HKT := Lib.hid hkt
                  clear hip HIP ho9 hg9 hat9 e9 f9 hkt
                  go_wp2
                  go_roundw
                  case rel =>
                    refine ⟨j - 1, _, _, ll ++ [t], by omega, by simp; omega, by rw [List.length_append, HM.out]; simp only [List.length_singleton]; omega, HIQ, Lib.hid fun u hu => ?_⟩
                    rcases List.mem_append.1 hu with h | h
                    · exact HKL.out u h
                    · obtain rfl := List.mem_singleton.1 h; exact HKT.out
                  case measure => simp [intOf]; omega
              · obtain rfl : j = 0 := by omega
                have hd1 : decide ((0 : Int) < ((0 : Nat) : Int)) = false := rfl
                obtain ⟨w30, rfl⟩ : ∃ w30, w30 = wr := ⟨_, rfl⟩
                obtain ⟨A2, c2, hz2⟩ := owns_slice HK21.out.fo
                have hzl : Z.fs.length = n := by rw [HZE.out.2.2.2.1]; exact HZ.out.fs.1
                rw [hzl] at hz2
                have HR2 := Lib.hid (row2 (P := P) hz2 hzl)
                clear hz2 hzl
                have d2 := HR2.out.cell _ _ HI.out.md
                have g0 : w30.cell? ⟨w21.heap.size, 0, none⟩ = some (.int .i64 (r21 : Int)) := by simp [World.cell?, HI.out.f9]
                have g1 := HI.out.cell1.1
                have g2 : w30.cell? ⟨w21.heap.size, 2, none⟩ = some (.slice none 0 0) := by simp [World.cell?, HI.out.f9]
                have d2b := (HR2.out.push _ _ (.cells #[.int .i64 (r21 : Int), .slice Al m cl, .slice none 0 0] 44) HI.out.md).1
                go_upto_region 23 with (at_builtin; refine wpList_append_row rfl (.tmp 101) (.tmp 103) 25 44 rfl _ 3 56 Tryd.underlying25 Tryd.infoFunc rfl (by decide) (by decide) (.slice A2 n c2) n (flatFn Z.fs) (by rfl) ((HR2.out.own _ _ HI.out.md).alloc _) _ 1 (fnCells ((r21 : Int), .slice Al m cl, .slice none 0 0)) (by rfl) (by rfl) (news_new w30 _ _ 1 1) (by simp [fnCells, Value.oneCell']) (by omega) ?_; intro v9 w9 ho9 hg9 hat9; obtain ⟨e9, f9⟩ := (HR2.out.push _ _ _ HI.out.md).2 w9 hg9; obtain ⟨B9, k9, rfl⟩ := owns_slice ho9)
                have hps := HR2.out.more _ _ _ ((r21 : Int), .slice Al m cl, .slice none 0 0) w9 _ _ _ HI.out.md ho9 rfl rfl hg9 hat9
                clear ho9 hg9 hat9 e9 f9 d2 d2b g0 g1 g2
                generalize w9.setCell ⟨P.M, 2, none⟩ (.slice B9 (n + 1) k9) = w31 at hps ⊢
                obtain ⟨Y, hY⟩ : ∃ Y : MS, Y = { Z with at_ := a, m2 := .slice B9 (n + 1) k9, fs := Z.fs ++ [((r21 : Int), .slice Al m cl, .slice none 0 0)] } := ⟨_, rfl⟩
                have H31 : Hid (Mk P w31 Y) := by rw [hY]; exact hps.1
                have HT31 : Hid (MStep P w30 { Z with at_ := a } w31 Y) := by rw [hY]; exact hps.2
                have HY : Hid (Y.m0 = Z.m0 ∧ Y.m1 = Z.m1 ∧ Y.m4 = Z.m4 ∧ Y.fs = Z.fs ++ [((r21 : Int), .slice Al m cl, .slice none 0 0)] ∧ Y.ms = Z.ms ∧ Y.m6 = Z.m6 ∧ Y.es = Z.es) := by rw [Hid, hY]; exact ⟨rfl, rfl, rfl, rfl, rfl, rfl, rfl⟩
                clear hps hY
                have HFN : Hid (∀ f ∈ Y.fs, FnOk (still P Y w31) w31 f) := fun f hf => by
                  rw [HY.out.2.2.2.1] at hf
                  rcases List.mem_append.1 hf with h | h
                  · rw [HZE.out.2.2.2.1] at h
                    exact ((HZ.out.fs.2 f h).step (HMS.out.trans HI.out.st)).step HT31.out
                  · obtain rfl := List.mem_singleton.1 h
                    exact ⟨by show (0 : Int) ≤ (r21 : Int); omega, by show (r21 : Int) < 9; omega, rfl, ll, by rw [HM.out]; omega, HT31.out.ints (HI.out.ints (by rw [HM.out]; omega)), HKL.out⟩
                have HSZ := Lib.hid (HMS.out.trans (HI.out.st.trans HT31.out))
                have HST := Lib.hid (HS21.out.trans (HI.out.st.trans HT31.out))
                have HZQ : Hid (Y.m0 = z.m0 ∧ Y.m1 = z.m1 ∧ Y.m4 = z.m4 ∧ Y.fs.length = n + 1 ∧ Y.ms = z.ms ∧ Y.m6 = z.m6 ∧ Y.es = z.es) := by
                  obtain ⟨y1, y2, y3, y4, y5, y6, y7⟩ := HY.out
                  obtain ⟨q1, q2, q3, q4, q5, q6, q7, _⟩ := HZE.out
                  exact ⟨y1.trans q1, y2.trans q2, y3.trans q3, by rw [y4, List.length_append, q4, HZ.out.fs.1]; rfl, y5.trans q5, y6.trans q6, y7.trans q7⟩
                clear HI HKL HOW HM HR2 HT31 HMS HZE HK21 HS21 HY
                obtain ⟨ne, hne⟩ : ∃ ne, Y.es.length = ne := ⟨_, rfl⟩
                have hne5 : ne ≤ 1 + n := by rw [← hne, HZQ.out.2.2.2.2.2.2, HZ.out.es, List.length_append, fexp_len]; have := mexp_le k; omega
                obtain ⟨A5, c5, hy5⟩ := owns_slice H31.out.eo
                rw [hne] at hy5
                have HR5 := Lib.hid (row5 (P := P) hy5 hne)
                clear hy5
                have HNE := Lib.hid hne
                clear hne
                have d5 := HR5.out.cell _ _ H31.out
                have hn4 : n < 4 := by omega
                have rc1 := rune_int n hn4 w31
                have rc2 := rune_str n hn4 w31
                have hds := digit_size n
                obtain ⟨nmv, hnmv⟩ : ∃ nmv : ByteArray, nmv = ⟨#[102]⟩ ++ digit n := ⟨_, rfl⟩
                have d5b := (HR5.out.push _ _ (.cells #[.string (⟨#[102]⟩ ++ digit n), .int .i64 0, .int .i64 (2 + (n : Int))] 62) H31.out).1
                have hne6 : ne + 1 ≤ 1000000 := by omega
                clear hnmv
                go_wp2_with (at_builtin; refine wpList_append_row rfl (.tmp 107) (.tmp 116) 28 62 rfl _ 3 32 Tryd.underlying28 Tryd.infoExport rfl (by decide) (by decide) (.slice A5 ne c5) ne (flatEx Y.es) (by rfl) ((HR5.out.own _ _ H31.out).alloc _) _ 1 (exCells (⟨#[102]⟩ ++ digit n, 0, 2 + (n : Int))) (by rfl) (by rfl) (news_new w31 _ _ 1 1) (by simp [exCells, Value.oneCell']) hne6 ?_; intro v9 w9 ho9 hg9 hat9; obtain ⟨e9, f9⟩ := (HR5.out.push _ _ _ H31.out).2 w9 hg9; obtain ⟨B9, k9, rfl⟩ := owns_slice ho9)
                have hps := HR5.out.more _ _ _ (⟨#[102]⟩ ++ digit n, 0, 2 + (n : Int)) w9 _ _ _ H31.out ho9 rfl rfl hg9 hat9
                have HPS := Lib.hid hps
                clear hps ho9 hg9 hat9 e9 f9 d5 d5b rc1 rc2 hds hne6
                go_roundw
                case rel =>
                  obtain ⟨q1, q2, q3, q4, q5, q6, q7⟩ := HZQ.out
                  refine ⟨n + 1, _, by omega, by go_num, Lib.hid ⟨HPS.out.1, HST.out.trans HPS.out.2, q1.trans HZ.out.m0, q2.trans HZ.out.m1, q3.trans HZ.out.m4, ⟨q4, fun f hf => (HFN.out f hf).step HPS.out.2⟩, ?_, ?_, ?_⟩⟩
                  · show Y.ms.length = k ∧ ∀ m ∈ Y.ms, goodM m; rw [q5]; exact HZ.out.ms
                  · exact ds_step (HSZ.out.trans HPS.out.2) q6 HZ.out.ds
                  · show Y.es ++ [_] = mexp k ++ fexp (n + 1); rw [fexp_succ, q7, HZ.out.es, List.append_assoc]
                case measure => simp [intOf]; omega
          · obtain rfl : n = nf := by omega
            have hd0 : decide ((n : Int) < (n : Int)) = false := by simp
            go_upto_region 24 with (fail)
            go_cut [] from 13 to 126 (fun wx => ∃ (y : MS) (r : Nat), r < 4 ∧ Hid (Third P w5 X5 k n (mexp k ++ fexp n ++ [(globName, 3, (r : Int))]) wx y))
            case first =>
              obtain ⟨ne, hne⟩ : ∃ ne, z.es.length = ne := ⟨_, rfl⟩
              have hne5 : ne ≤ 1 + n := by rw [← hne, HZ.out.es, List.length_append, fexp_len]; have := mexp_le k; omega
              obtain ⟨A5, c5, hy5⟩ := owns_slice HZ.out.md.eo
              rw [hne] at hy5
              have HR5 := Lib.hid (row5 (P := P) hy5 hne)
              clear hy5
              have HNE := Lib.hid hne
              clear hne
              have d5 := HR5.out.cell _ _ HZ.out.md
              have hne6 : ne + 1 ≤ 1000000 := by omega
              go_wp2_with fail
              go_region_law (first
                | (refine step_append_row rfl (.tmp 120) (.tmp 124) 28 62 rfl _ 3 32 Tryd.underlying28 Tryd.infoExport rfl (by decide) (by decide) (.slice A5 ne c5) ne (flatEx z.es) (by rfl) ((HR5.out.own _ _ hk41).alloc _) _ 1 (exCells (globName, 3, (r41 : Int))) (by rfl) (by rfl) (news_new w41 _ _ 1 1) (by simp [exCells, Value.oneCell']) hne6 ?_; intro v9 w9 ho9 hg9 hat9; obtain ⟨e9, f9⟩ := (HR5.out.push _ _ _ hk41).2 w9 hg9; obtain ⟨B9, k9, rfl⟩ := owns_slice ho9)
                | (go_simp; go_at_call 12; refine (mk_next HZ.out.md.drew.1 4 (by decide) (by decide)).mono ?_; rintro e w41 ⟨r41, hr41, rfl, a41, hk41, hs41⟩; have d41 := HR5.out.cell _ _ hk41; have d41b := (HR5.out.push _ _ (.cells #[.string ⟨#[103, 108, 111, 98, 97, 108]⟩, .int .i64 3, .int .i64 (r41 : Int)] 62) hk41).1; go_wp2_with fail))
              all_goals
                have hps := HR5.out.more _ _ _ (globName, 3, (r41 : Int)) w9 _ _ _ hk41 ho9 rfl rfl hg9 hat9
                have HPS := Lib.hid hps
                have HS9 := Lib.hid (HZ.out.md.drew.2.trans (hs41.trans hps.2))
                clear hps ho9 hg9 hat9 e9 f9 hk41 hs41
                go_wp2
                go_meet
                refine ⟨_, r41, hr41, Lib.hid ⟨HPS.out.1, HZ.out.st.trans HS9.out, HZ.out.m0, HZ.out.m1, HZ.out.m4, ⟨HZ.out.fs.1, fun f hf => (HZ.out.fs.2 f hf).step HS9.out⟩, HZ.out.ms, ds_step HS9.out rfl HZ.out.ds, ?_⟩⟩
                show z.es ++ [_] = _; rw [HZ.out.es]
            case rest =>
              obtain ⟨x50, r50, hr50, H50⟩ := hcut
              obtain ⟨w50, rfl⟩ : ∃ w50, w50 = wc := ⟨_, rfl⟩
              clear HZ hd0 hlt hn
              have HCX : Hid (∀ (wz : World) (z : MS), MStep P w5 X5 wz z → z.m0 = X5.m0 → z.m1 = X5.m1 → z.m4 = X5.m4 → TypesK (still P z wz) wz z.m0 nineL ∧ ImpsK (still P z wz) wz z.m1 twoImps ∧ GlobsK (still P z wz) wz z.m4 fourGlobs) := fun wz z hs e0 e1 e4 => by
                refine ⟨?_, ?_, ?_⟩
                · rw [e0, HE5.out.1]; exact hs.types HTY5.out
                · rw [e1, HE5.out.2.1]; exact hs.cells HJ4.out
                · rw [e4, HE5.out.2.2.1]; exact hs.cells HI4.out
              have HF0 : Hid (Fourth P w5 X5 k n 0 r50 w50 x50) := Lib.hid (H50.out.fourth (by omega))
              clear HTY5 HJ4 HI4 HE5 H50 HM0
              go_wp2_with fail
              go_loopw [11] (fun i wr => ∃ (j : Nat) (y : MS), j ≤ n ∧ i = .int .i64 (j : Int) ∧ Hid (Fourth P w5 X5 k n j r50 wr y)) (fun i _ => n - (intOf i).toNat)
              case atStart => exact ⟨0, _, Nat.zero_le _, rfl, HF0⟩
              case round =>
                clear HF0
                obtain ⟨j, y, hj, rfl, HF⟩ := hrel
                obtain ⟨w60, rfl⟩ : ∃ w60, w60 = wr := ⟨_, rfl⟩
                obtain ⟨hy0, hy1, hy4⟩ := HCX.out _ _ HF.out.st HF.out.m0 HF.out.m1 HF.out.m4
                have HY0 := Lib.hid hy0
                have HY1 := Lib.hid hy1
                have HY4 := Lib.hid hy4
                obtain ⟨A0, n0, c0, hm0⟩ := CellsK.form3 hy0
                obtain ⟨A1, n1, c1, hm1⟩ := CellsK.form3 hy1
                obtain ⟨A4, n4, c4, hm4⟩ := CellsK.form3 hy4
                obtain ⟨⟨A3, n3, c3, hm3⟩, ⟨A5, n5, c5, hm5⟩, ⟨A6, n6, c6, hm6⟩, g2, c2, hm2, hc2⟩ := HF.out.forms hnf4.1
                have dc : ∀ o, w60.cell? ⟨P.M, o, none⟩ = (mcells y)[o]? := fun o => HF.out.md.cell o
                have d0 : w60.cell? ⟨P.M, 0, none⟩ = some (.slice A0 n0 c0) := by rw [dc, ← hm0]; rfl
                have d1 : w60.cell? ⟨P.M, 1, none⟩ = some (.slice A1 n1 c1) := by rw [dc, ← hm1]; rfl
                have d2 : w60.cell? ⟨P.M, 2, none⟩ = some (.slice (some ⟨g2, 0, none⟩) n c2) := by rw [dc, ← hm2]; rfl
                have d3 : w60.cell? ⟨P.M, 3, none⟩ = some (.slice A3 n3 c3) := by rw [dc, ← hm3]; rfl
                have d4 : w60.cell? ⟨P.M, 4, none⟩ = some (.slice A4 n4 c4) := by rw [dc, ← hm4]; rfl
                have d5 : w60.cell? ⟨P.M, 5, none⟩ = some (.slice A5 n5 c5) := by rw [dc, ← hm5]; rfl
                have d6 : w60.cell? ⟨P.M, 6, none⟩ = some (.slice A6 n6 c6) := by rw [dc, ← hm6]; rfl
                have d7 : w60.cell? ⟨P.M, 7, none⟩ = some (.slice none 0 0) := by rw [dc]; rfl
                have HM := Lib.hid (And.intro hm0 (And.intro hm1 (And.intro hm2 (And.intro hm3 (And.intro hm4 (And.intro hm5 hm6))))))
                have HMC : Hid (∀ wz, Below w60.heap.size w60 wz → wz.cell? ⟨P.M, 0, none⟩ = some (.slice A0 n0 c0) ∧ wz.cell? ⟨P.M, 1, none⟩ = some (.slice A1 n1 c1) ∧ wz.cell? ⟨P.M, 2, none⟩ = some (.slice (some ⟨g2, 0, none⟩) n c2) ∧ wz.cell? ⟨P.M, 3, none⟩ = some (.slice A3 n3 c3) ∧ wz.cell? ⟨P.M, 4, none⟩ = some (.slice A4 n4 c4) ∧ wz.cell? ⟨P.M, 5, none⟩ = some (.slice A5 n5 c5) ∧ wz.cell? ⟨P.M, 6, none⟩ = some (.slice A6 n6 c6) ∧ wz.cell? ⟨P.M, 7, none⟩ = some (.slice none 0 0)) := fun wz hb => ⟨(hb.cell (p := ⟨P.M, 0, none⟩) HF.out.md.lts.1).trans d0, (hb.cell (p := ⟨P.M, 1, none⟩) HF.out.md.lts.1).trans d1, (hb.cell (p := ⟨P.M, 2, none⟩) HF.out.md.lts.1).trans d2, (hb.cell (p := ⟨P.M, 3, none⟩) HF.out.md.lts.1).trans d3, (hb.cell (p := ⟨P.M, 4, none⟩) HF.out.md.lts.1).trans d4, (hb.cell (p := ⟨P.M, 5, none⟩) HF.out.md.lts.1).trans d5, (hb.cell (p := ⟨P.M, 6, none⟩) HF.out.md.lts.1).trans d6, (hb.cell (p := ⟨P.M, 7, none⟩) HF.out.md.lts.1).trans d7⟩
                by_cases hlt : j < n
                · have hd0 : decide ((j : Int) < (n : Int)) = true := by simp; omega
                  obtain ⟨t, ll, ht, hll, hsg⟩ := HF.out.sigs hlt hnf4.2 hy0 hy1
                  rw [hm0, hm1, hm2, hm3, hm4, hm5, hm6] at hsg
                  have HSG := Lib.hid hsg
                  have HT3 : Hid ((nineL.getD t ([], [])).1.length ≤ 3 ∧ (nineL.getD t ([], [])).2.length ≤ 3) := Lib.hid ((by decide : ∀ t, t < 9 → (nineL.getD t ([], [])).1.length ≤ 3 ∧ (nineL.getD t ([], [])).2.length ≤ 3) t ht)
                  have e1 : IntKind.i64.wrap (2 + (j : Int)) = 2 + (j : Int) := IntWalk.i64_in _ (by omega)
                  generalize nineL.getD t ([], []) = tt at HSG HT3
                  have HLL := Lib.hid hll
                  clear hsg dc hy0 hy1 hy4 hm0 hm1 hm2 hm3 hm4 hm5 hm6 hc2 hll ht
                  go_wp2_with fail
                  go_region_held3 (fun w' => w'.cell? ⟨P.M, 0, none⟩ = some (.slice A0 n0 c0) ∧ w'.cell? ⟨P.M, 1, none⟩ = some (.slice A1 n1 c1) ∧ w'.cell? ⟨P.M, 2, none⟩ = some (.slice (some ⟨g2, 0, none⟩) n c2) ∧ w'.cell? ⟨P.M, 3, none⟩ = some (.slice A3 n3 c3) ∧ w'.cell? ⟨P.M, 4, none⟩ = some (.slice A4 n4 c4) ∧ w'.cell? ⟨P.M, 5, none⟩ = some (.slice A5 n5 c5) ∧ w'.cell? ⟨P.M, 6, none⟩ = some (.slice A6 n6 c6) ∧ w'.cell? ⟨P.M, 7, none⟩ = some (.slice none 0 0))
                    (first | go_keep | exact ⟨d0, d1, d2, d3, d4, d5, d6, d7⟩ | exact HMC.out _ hb61)
                    ((go_at_call 13; refine ((HSG.out _ ((Below.refl _ _).drew)).1).mono ?_; rintro e w61 ⟨lov, rfl, hlo, hb61a⟩; have hb61 := below_then ((Below.refl _ _).drew) hb61a; obtain ⟨Al, cl, rfl, _⟩ := hlo.form; obtain ⟨nl, hnl⟩ : ∃ nl, (tt.1 ++ ll).length = nl := ⟨_, rfl⟩; rw [hnl]; rw [hnl] at hlo))
                  have hG62 := heap_alloc_new w61 (.cells #[.pointer (some ⟨P.T, 0, none⟩), .slice A0 n0 c0, .slice A1 n1 c1, .slice (some ⟨g2, 0, none⟩) n c2, .slice A3 n3 c3, .slice A4 n4 c4, .slice A5 n5 c5, .slice A6 n6 c6, .slice none 0 0, .slice Al nl cl, .slice none 0 0, .slice none 0 0, .slice none 0 0, .slice none 0 0, .slice none 0 0, .int .i64 40, .bool true] 66)
                  have HB62 := Lib.hid (below_new hb61 (.cells #[.pointer (some ⟨P.T, 0, none⟩), .slice A0 n0 c0, .slice A1 n1 c1, .slice (some ⟨g2, 0, none⟩) n c2, .slice A3 n3 c3, .slice A4 n4 c4, .slice A5 n5 c5, .slice A6 n6 c6, .slice none 0 0, .slice Al nl cl, .slice none 0 0, .slice none 0 0, .slice none 0 0, .slice none 0 0, .slice none 0 0, .int .i64 40, .bool true] 66))
                  have HB612 := Lib.hid ((Below.refl w61.heap.size w61).alloc (Nat.le_refl _) (.cells #[.pointer (some ⟨P.T, 0, none⟩), .slice A0 n0 c0, .slice A1 n1 c1, .slice (some ⟨g2, 0, none⟩) n c2, .slice A3 n3 c3, .slice A4 n4 c4, .slice A5 n5 c5, .slice A6 n6 c6, .slice none 0 0, .slice Al nl cl, .slice none 0 0, .slice none 0 0, .slice none 0 0, .slice none 0 0, .slice none 0 0, .int .i64 40, .bool true] 66))
                  have hlt62 : w61.heap.size < (w61.alloc (.cells #[.pointer (some ⟨P.T, 0, none⟩), .slice A0 n0 c0, .slice A1 n1 c1, .slice (some ⟨g2, 0, none⟩) n c2, .slice A3 n3 c3, .slice A4 n4 c4, .slice A5 n5 c5, .slice A6 n6 c6, .slice none 0 0, .slice Al nl cl, .slice none 0 0, .slice none 0 0, .slice none 0 0, .slice none 0 0, .slice none 0 0, .int .i64 40, .bool true] 66)).heap.size := by simp
                  have HLO := Lib.hid hlo
                  have HG60 : Hid (w60.heap.size ≤ w61.heap.size) := hb61.size
                  have HNL : Hid ((tt.1 ++ ll).length ≤ 100) := by rw [Hid, List.length_append]; have := HT3.out.1; have := HLL.out; omega
                  clear hlo hb61 hb61a hnl d0 d1 d2 d3 d4 d5 d6 d7
                  generalize w61.alloc (.cells #[.pointer (some ⟨P.T, 0, none⟩), .slice A0 n0 c0, .slice A1 n1 c1, .slice (some ⟨g2, 0, none⟩) n c2, .slice A3 n3 c3, .slice A4 n4 c4, .slice A5 n5 c5, .slice A6 n6 c6, .slice none 0 0, .slice Al nl cl, .slice none 0 0, .slice none 0 0, .slice none 0 0, .slice none 0 0, .slice none 0 0, .int .i64 40, .bool true] 66) = w62 at *
                  obtain ⟨G, hGe⟩ : ∃ G, w61.heap.size = G := ⟨_, rfl⟩
                  rw [hGe] at hG62 hlt62 HLO HG60 ⊢
                  have HGE := Lib.hid hGe
                  clear hGe
                  obtain ⟨d0, d1, d2, d3, d4, d5, d6, d7⟩ := HMC.out w62 HB62.out
                  go_wp2_with fail
                  go_at_call 14
                  refine ((HSG.out w62 HB62.out).2).mono ?_
                  rintro e w63 ⟨p, rv, rfl, hip, hir, hb63⟩
                  obtain ⟨Ap, cp, rfl, _, _⟩ := hip.form
                  obtain ⟨Ar, cr, rfl, _, _⟩ := hir.form
                  obtain ⟨np, hnp⟩ : ∃ np, tt.1.length = np := ⟨_, rfl⟩
                  obtain ⟨nr, hnr⟩ : ∃ nr, tt.2.length = nr := ⟨_, rfl⟩
                  rw [hnp] at hip ⊢
                  rw [hnr] at hir ⊢
                  have hG63 := (hb63.block G hlt62).trans hG62
                  have HG63 := Lib.hid hG63
                  have HB63 := Lib.hid (below_then HB62.out hb63)
                  have HB613 := Lib.hid (below_then HB612.out hb63)
                  have HIR := Lib.hid (hir.keep (K' := fun k => k < w60.heap.size ∧ k ≠ P.T) (Keeps.below hb63 fun k hk => Nat.lt_of_lt_of_le hk.1 HB62.out.size) fun k h => h)
                  have f10 : w63.frozen? ⟨G, 10, none⟩ = false := by simp [World.frozen?, hG63]
                  have f11 : w63.frozen? ⟨G, 11, none⟩ = false := by simp [World.frozen?, hG63]
                  have g10 : w63.cell? ⟨G, 10, none⟩ = some (.slice none 0 0) := by simp [World.cell?, hG63]
                  have g11 : w63.cell? ⟨G, 11, none⟩ = some (.slice none 0 0) := by simp [World.cell?, hG63]
                  have hbp := box_pre hG63 (.slice Ap np cp) (.slice Ar nr cr) (.cells #[.slice Ar nr cr] 22)
                  have f13b : (((w63.setCell ⟨G, 10, none⟩ (.slice Ap np cp)).setCell ⟨G, 11, none⟩ (.slice Ar nr cr)).alloc (.cells #[.slice Ar nr cr] 22)).frozen? ⟨G, 13, none⟩ = false := by simp [World.frozen?, hbp]
                  have g13b : (((w63.setCell ⟨G, 10, none⟩ (.slice Ap np cp)).setCell ⟨G, 11, none⟩ (.slice Ar nr cr)).alloc (.cells #[.slice Ar nr cr] 22)).cell? ⟨G, 13, none⟩ = some (.slice none 0 0) := by simp [World.cell?, hbp]
                  clear hbp hip hir hb63 hG62 hG63 hnp hnr d0 d1 d2 d3 d4 d5 d6 d7 HB62 HB612 hlt62 HSG
                  go_upto_region 31 with (fail)
                  obtain ⟨F, x0, hFG, hFT, hFo, hFE, hFtl, hFrv, hFro, hs0, hc0, hn0, hl0, hFtv, hgen, hb64, hfr, hfr2⟩ := HF.out.gen hnf4 HY0.out HY1.out HY4.out HG60.out (lov := .slice Al nl cl) (lo := tt.1 ++ ll) (HLO.out.keep (Keeps.below HB613.out fun k hk => by rw [HGE.out]; exact hk.2) fun k h => ⟨h.1, h.2⟩) HNL.out (p := .slice Ap np cp) (rv := .slice Ar nr cr) (t := tt) HIR.out HT3.out.2 HB63.out (by obtain ⟨e0, e1, e2, e3, e4, e5, e6⟩ := HM.out; rw [e0, e1, e2, e3, e4, e5, e6]; exact HG63.out)
                  clear f10 f11 f13b g10 g11 g13b
                  generalize ((((w63.setCell ⟨G, 10, none⟩ (.slice Ap np cp)).setCell ⟨G, 11, none⟩ (.slice Ar nr cr)).alloc (.cells #[.slice Ar nr cr] 22)).setCell ⟨G, 13, none⟩ (.slice (some ⟨w63.heap.size, 0, none⟩) 1 1)) = w64 at hgen hb64 hfr hfr2 ⊢
                  subst hFG
                  have HFR := Lib.hid hfr
                  have HFR2 := Lib.hid hfr2
                  have HB64 := Lib.hid hb64
                  have HGN := Lib.hid hgen
                  have HFF := Lib.hid (And.intro hFo (And.intro hFT (And.intro hFtl (And.intro hFtv (And.intro hFrv hFro)))))
                  have HFE := Lib.hid hFE
                  have HX0 := Lib.hid (And.intro hs0 (And.intro hc0 (And.intro hn0 hl0)))
                  have hnx := next_gen hgen 14 (by omega) (by omega)
                  rw [hFT] at hnx
                  have HNX := Lib.hid hnx
                  clear hfr hfr2 hb64 hgen hFo hFT hFtl hFtv hFrv hFro hFE hs0 hc0 hn0 hl0 hnx HLO HB613 HNL HIR HG63 HB63 HG60 HGE
                  go_wp2_with fail
                  go_at_call 12
                  refine HNX.out.mono ?_
                  rintro e w65 ⟨r65, hr65, rfl, x1, hg1, hs1, hn1⟩
                  obtain ⟨nn, hnn⟩ : ∃ nn : Nat, nn = 3 + r65 := ⟨_, rfl⟩
                  have e2 : IntKind.i64.wrap (3 + (r65 : Int)) = (nn : Int) := by rw [show (3 : Int) + (r65 : Int) = (nn : Int) by omega]; exact IntWalk.i64_in _ (by omega)
                  obtain ⟨a1, a2, a3, a4⟩ := hn1
                  obtain ⟨b1, b2, b3, b4⟩ := HX0.out
                  rw [b1, List.length_nil] at a1
                  rw [b2, List.length_nil] at a2
                  rw [b3] at a3
                  rw [b4] at a4
                  have hwg : wgt x1 = 4000 := by unfold wgt; rw [a1, a2, a4]; rfl
                  have hbd := body_any hg1 HFF.out.1 0 nn (Nat.zero_le _) (by omega) (by omega) (by simp only [List.length_nil]; omega) (by omega) (by omega) (by omega) (by omega) HFE.out
                  rw [show ((0 : Nat) : Int) = 0 from rfl] at hbd
                  have HBD := Lib.hid hbd
                  have HS1 := Lib.hid hs1
                  have HWG := Lib.hid hwg
                  clear hbd hg1 hs1 a1 a2 a3 a4 b1 b2 b3 b4 hwg HNX HX0 HGN hnn
                  go_wp2_with fail
                  go_at_call 15
                  refine HBD.out.mono ?_
                  rintro e w66 ⟨b, rfl, x2, hg2, hs2, hr2⟩
                  have HM2 : Hid (Most x2 5000) := by have h1 := hr2.2.1; rw [HWG.out] at h1; exact (most_of_wgt h1).le (by omega)
                  have HG2 := Lib.hid hg2
                  have HS2 := Lib.hid (HS1.out.trans hs2)
                  clear hg2 hs2 hr2 HBD HS1 HWG e2
                  cases b
                  case' true =>
                    have c11 := HG2.out.c11
                    rw [HFF.out.2.2.2.2.1] at c11
                    have hsh := shape_any HG2.out (.slice Ar nr cr) tt.2 (by have h9 := HG2.out.reads.own.1; rw [HFF.out.2.2.2.2.1, HFF.out.2.2.2.2.2] at h9; exact h9.wide) HT3.out.2 0 (Nat.zero_le _) (HM2.out.le (by omega))
                    rw [show ((0 : Nat) : Int) = 0 from rfl] at hsh
                    have HSH := Lib.hid hsh
                    clear hsh
                    go_wp2_with fail
                    go_at_call 16
                    refine HSH.out.mono ?_
                    rintro e w67 ⟨rfl, x3, hg3, hs3, hj3⟩
                    have HG3 := Lib.hid hg3
                    have HS3 := Lib.hid (HS2.out.trans hs3)
                    have HM3 : Hid (Most x3 6000) := Lib.hid ((hj3.most HM2.out).le (by omega))
                    clear hg3 hs3 hj3 HSH c11
                  case' false =>
                    obtain ⟨w67, rfl⟩ : ∃ w67, w67 = w66 := ⟨_, rfl⟩
                    obtain ⟨x3, rfl⟩ : ∃ x3, x3 = x2 := ⟨_, rfl⟩
                    have HG3 := HG2
                    have HS3 := HS2
                    have HM3 : Hid (Most x3 6000) := Lib.hid (HM2.out.le (by omega))
                  all_goals
                    clear HG2 HS2 HM2
                    have hpt := put_to HG3.out 11 0 0 0 (.slice none 0 0) ⟨[], IntsK.nil _ _⟩ (HM3.out.le (by omega)) none (fun q hq => by cases hq)
                    have HPT := Lib.hid hpt
                    clear hpt
                    go_wp2_with fail
                    go_at_call 17
                    refine HPT.out.mono ?_
                    rintro e w68 ⟨rfl, x4, hg4, hs4, hn4, hc4⟩
                    have HC4 : Hid (x4.c.length ≤ 900000 ∧ ∃ d, x4.c = d ++ [iend] ∧ nestOf (d.map Iv.op) [] = some []) := Lib.hid ⟨by have h1 := hn4.2.1; have h2 := HM3.out.c; omega, _, hc4, HG3.out.reads.nest [] HFF.out.1⟩
                    have HG4 := Lib.hid hg4.drew.1
                    have HS4 : Hid (Step F w64 x0 w68.drew x4) := Lib.hid (HS3.out.trans ((hs4.trans hg4.drew.2).reo (b := F.o)))
                    have HK8 : Hid (Keeps (fun k => k < w60.heap.size ∧ k ≠ P.T) w60 w68) := Lib.hid ((Keeps.below HB64.out fun k hk => hk.1).trans ((HS3.out.trans (hs4.reo (b := F.o))).keeps.mono HFR.out))
                    obtain ⟨q1, ⟨qu, q2⟩, q3⟩ := HF.out.spot HM.out.2.2.1 hlt HK8.out
                    rw [HM.out.2.2.1] at q3
                    have c14 := hg4.c14
                    obtain ⟨Ac, cc, hcv⟩ := owns_slice hg4.co
                    rw [hcv] at c14
                    have HCV := Lib.hid hcv
                    have q1d : w68.drew.frozen? ⟨g2, j * 3 + 2, none⟩ = false := q1
                    have q2d : w68.drew.cell? ⟨g2, j * 3 + 2, none⟩ = some qu := q2
                    generalize x4.c.length = nc at c14 HCV
                    clear hg4 hs4 hn4 hc4 hcv HG3 HS3 HM3 HPT HK8
                    go_upto_region 34 with (fail)
                    go_still_tail 9, (by kernel_rfl)
                    change wpList _ _ _ _ _ w68.drew
                    generalize w68.drew = w69 at HG4 HS4 q1d q2d ⊢
                    clear q1 q2 q3 c14
                    go_wp2_with fail
                    have hmade := HF.out.made (F := { F with o := none }) (w9 := w69) HFF.out.2.1 HFF.out.2.2.1 HFF.out.2.2.2.1 HB64.out HFR.out HFR2.out HG4.out (HS4.out.reo) hlt HM.out.2.2.1 HC4.out.1 HC4.out.2
                    obtain ⟨y', hy'⟩ := hmade
                    rw [HCV.out] at hy'
                    have HY' := Lib.hid hy'
                    go_roundw
                    case rel => exact ⟨j + 1, y', by omega, by go_num, HY'⟩
                    case measure => simp [intOf]; omega
                · have hjn : j = n := by omega
                  have hd0 : decide ((j : Int) < (n : Int)) = false := by simp; omega
                  rw [hjn] at HF
                  have hz0 : P.W.heap[w.heap.size]? = some (.cells zeroM 32 (0, 0)) := by rw [HPW.out]; exact heap_alloc_new w _
                  have hzl : w.heap.size < P.W.heap.size := by rw [HPW.out]; simp
                  have hz := (HF.out.md.bel.block _ hzl).trans hz0
                  obtain ⟨m, hmm, hma⟩ := HF.out.data hnf4 hr50 hy0 hy1 hy4 (kept_fill8 HF.out.md hzl hz0 ⟨.slice A0 n0 c0, .slice A1 n1 c1, .slice (some ⟨g2, 0, none⟩) n c2, .slice A3 n3 c3, .slice A4 n4 c4, .slice A5 n5 c5, .slice A6 n6 c6, .slice none 0 0⟩)
                  rw [hm0, hm1, hm2, hm3, hm4, hm5, hm6] at hma
                  have HB9 := Lib.hid (below_fill8 (B := w.heap.size) (w0 := w) (below_then ((Below.refl w.heap.size w).alloc (Nat.le_refl _) (.cells zeroM 32)) (by have h9 := HF.out.md.bel; rw [HPW.out] at h9; exact h9)) (Nat.le_refl _) ⟨.slice A0 n0 c0, .slice A1 n1 c1, .slice (some ⟨g2, 0, none⟩) n c2, .slice A3 n3 c3, .slice A4 n4 c4, .slice A5 n5 c5, .slice A6 n6 c6, .slice none 0 0⟩)
                  have HFIN : Hid (ModPost w (.returned (.agg #[.slice A0 n0 c0, .slice A1 n1 c1, .slice (some ⟨g2, 0, none⟩) n c2, .slice A3 n3 c3, .slice A4 n4 c4, .slice A5 n5 c5, .slice A6 n6 c6, .slice none 0 0])) (fill8 w60 w.heap.size ⟨.slice A0 n0 c0, .slice A1 n1 c1, .slice (some ⟨g2, 0, none⟩) n c2, .slice A3 n3 c3, .slice A4 n4 c4, .slice A5 n5 c5, .slice A6 n6 c6, .slice none 0 0⟩)) := Lib.hid ⟨⟨.slice A0 n0 c0, .slice A1 n1 c1, .slice (some ⟨g2, 0, none⟩) n c2, .slice A3 n3 c3, .slice A4 n4 c4, .slice A5 n5 c5, .slice A6 n6 c6, .slice none 0 0⟩, m, rfl, hmm, hma, HB9.out⟩
                  have hfl := fill8_at hz ⟨.slice A0 n0 c0, .slice A1 n1 c1, .slice (some ⟨g2, 0, none⟩) n c2, .slice A3 n3 c3, .slice A4 n4 c4, .slice A5 n5 c5, .slice A6 n6 c6, .slice none 0 0⟩
                  obtain ⟨z0, s0⟩ := zeroed8 hz 0 (by omega)
                  obtain ⟨z1, s1⟩ := zeroed8 hz 1 (by omega)
                  obtain ⟨z2, s2⟩ := zeroed8 hz 2 (by omega)
                  obtain ⟨z3, s3⟩ := zeroed8 hz 3 (by omega)
                  obtain ⟨z4, s4⟩ := zeroed8 hz 4 (by omega)
                  obtain ⟨z5, s5⟩ := zeroed8 hz 5 (by omega)
                  obtain ⟨z6, s6⟩ := zeroed8 hz 6 (by omega)
                  obtain ⟨z7, s7⟩ := zeroed8 hz 7 (by omega)
                  have HFL := Lib.hid hfl
                  clear hz0 hzl hz hma hmm HB9 hfl dc hy0 hy1 hy4 hm0 hm1 hm2 hm3 hm4 hm5 hm6 hc2
                  go_wp2
                  have hfl := HFL.out
                  unfold fill8 at hfl
                  have hfin := HFIN.out
                  unfold fill8 at hfin
                  simp only [Mv.cells] at hfl
                  exact bodyPost_ret (v := .agg #[.slice A0 n0 c0, .slice A1 n1 c1, .slice (some ⟨g2, 0, none⟩) n c2, .slice A3 n3 c3, .slice A4 n4 c4, .slice A5 n5 c5, .slice A6 n6 c6, .slice none 0 0]) (by simp [results, Tryd.results4, go_sem, World.cell?, hfl]) rfl hfin
end Go.Proofs.YtinljaobdnkifaaDoor
