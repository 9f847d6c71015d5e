/-
  Contract of the turns' odd: some of the cases of its switch.
-/
import Derived.Test.YtloonhmemgidgaaJ4
namespace Go.Proofs.Ytloonhmemgidgaa
open Go.RowKit
set_option maxRecDepth 100000 in
set_option maxHeartbeats 100000000 in
theorem odd_Q (K : Nat → Prop) (w : World) (hK : ∀ g, K g → g < w.heap.size) (v : Mv) (m : Mdl) (k : Nat) (hk : k ≤ 10) (hm : ModAt K w v m) (hs : Sz k m) (hf : 0 < m.funs.length) (t : Trn) (Lv : Value) (hL : IntsK K w Lv t.raw.l) (h3 : t.what.tmod 4 = 3) (hkk : t.what % 1048577 / 4 % 9 = 3) :
    Calls Try.prog 11 #[.agg v.cells, t.val Lv] w (OddPost K (k + 1) w) := by
  obtain ⟨A0, c0, A1, c1, A2, c2, A3, c3, A4, c4, A5, c5, A6, c6, A7, c7, rfl⟩ := hm.forms
  obtain ⟨Al, cl, hLe, hLm, _⟩ := hL.form
  obtain ⟨nl, hnl⟩ : ∃ nl, t.raw.l.length = nl := ⟨_, rfl⟩
  rw [hnl] at hLe hLm
  have HL := Lib.hid hL
  obtain ⟨what, pos, to_, tn, op, ra, rb, rn, rl⟩ := t
  simp only at hLe HL h3 hkk
  have HKK := Lib.hid hkk
  clear hkk
  subst hLe
  clear hL hnl
  simp only [Trn.val, Mv.cells]
  obtain ⟨w3, hw3⟩ : ∃ w3, w3 = (((w.alloc (.cells #[.slice A0 m.types.length c0, .slice A1 m.imps.length c1, .slice A2 m.funs.length c2, .slice A3 m.mems.length c3, .slice A4 m.globs.length c4, .slice A5 m.exps.length c5, .slice A6 m.datas.length c6, .slice A7 m.cus.length c7] 33)).alloc (.cells #[.int .i64 what, .int .i64 pos, .int .i64 to_, .int .u64 tn, .int .i64 op, .int .i64 ra, .int .i64 rb, .int .u64 rn, .slice Al nl cl] 55)).alloc (.cells zeroM 33)) := ⟨_, rfl⟩
  have ha0 := alloc_fold [.cells #[.slice A0 m.types.length c0, .slice A1 m.imps.length c1, .slice A2 m.funs.length c2, .slice A3 m.mems.length c3, .slice A4 m.globs.length c4, .slice A5 m.exps.length c5, .slice A6 m.datas.length c6, .slice A7 m.cus.length c7] 33, .cells #[.int .i64 what, .int .i64 pos, .int .i64 to_, .int .u64 tn, .int .i64 op, .int .i64 ra, .int .i64 rb, .int .u64 rn, .slice Al nl cl] 55, .cells zeroM 33] w 0 _ rfl
  have ha1 := (alloc_fold [.cells #[.slice A0 m.types.length c0, .slice A1 m.imps.length c1, .slice A2 m.funs.length c2, .slice A3 m.mems.length c3, .slice A4 m.globs.length c4, .slice A5 m.exps.length c5, .slice A6 m.datas.length c6, .slice A7 m.cus.length c7] 33, .cells #[.int .i64 what, .int .i64 pos, .int .i64 to_, .int .u64 tn, .int .i64 op, .int .i64 ra, .int .i64 rb, .int .u64 rn, .slice Al nl cl] 55, .cells zeroM 33] w 1 _ rfl).1
  have ha2 := (alloc_fold [.cells #[.slice A0 m.types.length c0, .slice A1 m.imps.length c1, .slice A2 m.funs.length c2, .slice A3 m.mems.length c3, .slice A4 m.globs.length c4, .slice A5 m.exps.length c5, .slice A6 m.datas.length c6, .slice A7 m.cus.length c7] 33, .cells #[.int .i64 what, .int .i64 pos, .int .i64 to_, .int .u64 tn, .int .i64 op, .int .i64 ra, .int .i64 rb, .int .u64 rn, .slice Al nl cl] 55, .cells zeroM 33] w 2 _ rfl).1
  change (((w.alloc (.cells #[.slice A0 m.types.length c0, .slice A1 m.imps.length c1, .slice A2 m.funs.length c2, .slice A3 m.mems.length c3, .slice A4 m.globs.length c4, .slice A5 m.exps.length c5, .slice A6 m.datas.length c6, .slice A7 m.cus.length c7] 33)).alloc (.cells #[.int .i64 what, .int .i64 pos, .int .i64 to_, .int .u64 tn, .int .i64 op, .int .i64 ra, .int .i64 rb, .int .u64 rn, .slice Al nl cl] 55)).alloc (.cells zeroM 33)).heap[w.heap.size]? = _ ∧ Below w.heap.size w (((w.alloc (.cells #[.slice A0 m.types.length c0, .slice A1 m.imps.length c1, .slice A2 m.funs.length c2, .slice A3 m.mems.length c3, .slice A4 m.globs.length c4, .slice A5 m.exps.length c5, .slice A6 m.datas.length c6, .slice A7 m.cus.length c7] 33)).alloc (.cells #[.int .i64 what, .int .i64 pos, .int .i64 to_, .int .u64 tn, .int .i64 op, .int .i64 ra, .int .i64 rb, .int .u64 rn, .slice Al nl cl] 55)).alloc (.cells zeroM 33)) ∧ (((w.alloc (.cells #[.slice A0 m.types.length c0, .slice A1 m.imps.length c1, .slice A2 m.funs.length c2, .slice A3 m.mems.length c3, .slice A4 m.globs.length c4, .slice A5 m.exps.length c5, .slice A6 m.datas.length c6, .slice A7 m.cus.length c7] 33)).alloc (.cells #[.int .i64 what, .int .i64 pos, .int .i64 to_, .int .u64 tn, .int .i64 op, .int .i64 ra, .int .i64 rb, .int .u64 rn, .slice Al nl cl] 55)).alloc (.cells zeroM 33)).heap.size = w.heap.size + 3 at ha0
  change (((w.alloc (.cells #[.slice A0 m.types.length c0, .slice A1 m.imps.length c1, .slice A2 m.funs.length c2, .slice A3 m.mems.length c3, .slice A4 m.globs.length c4, .slice A5 m.exps.length c5, .slice A6 m.datas.length c6, .slice A7 m.cus.length c7] 33)).alloc (.cells #[.int .i64 what, .int .i64 pos, .int .i64 to_, .int .u64 tn, .int .i64 op, .int .i64 ra, .int .i64 rb, .int .u64 rn, .slice Al nl cl] 55)).alloc (.cells zeroM 33)).heap[w.heap.size + 1]? = _ at ha1
  change (((w.alloc (.cells #[.slice A0 m.types.length c0, .slice A1 m.imps.length c1, .slice A2 m.funs.length c2, .slice A3 m.mems.length c3, .slice A4 m.globs.length c4, .slice A5 m.exps.length c5, .slice A6 m.datas.length c6, .slice A7 m.cus.length c7] 33)).alloc (.cells #[.int .i64 what, .int .i64 pos, .int .i64 to_, .int .u64 tn, .int .i64 op, .int .i64 ra, .int .i64 rb, .int .u64 rn, .slice Al nl cl] 55)).alloc (.cells zeroM 33)).heap[w.heap.size + 2]? = _ at ha2
  rw [← hw3] at ha0 ha1 ha2
  obtain ⟨ha0, hbm, hsz⟩ := ha0
  have HBX : Hid (Box K w k w3 ⟨.slice A0 m.types.length c0, .slice A1 m.imps.length c1, .slice A2 m.funs.length c2, .slice A3 m.mems.length c3, .slice A4 m.globs.length c4, .slice A5 m.exps.length c5, .slice A6 m.datas.length c6, .slice A7 m.cus.length c7⟩ m) :=
    Lib.hid ⟨ha0, ha2, hm.keep (Keeps.below hbm hK) fun g hg => ⟨Nat.lt_of_lt_of_le (hK g hg) hbm.size, .inl hg⟩, hs, hbm, by rw [hsz]; exact Nat.le_refl _, hK⟩
  have HT : Hid (∀ wz, Below w3.heap.size w3 wz → TrnC w wz what pos to_ tn op ra rb rn (.slice Al nl cl)) := Lib.hid fun wz hb => by
    have hc : ∀ i, wz.cell? ⟨w.heap.size + 1, i, none⟩ = (#[.int .i64 what, .int .i64 pos, .int .i64 to_, .int .u64 tn, .int .i64 op, .int .i64 ra, .int .i64 rb, .int .u64 rn, .slice Al nl cl] : Array Value)[i]? := fun i => (hb.cell (p := ⟨w.heap.size + 1, i, none⟩) (by show w.heap.size + 1 < _; omega)).trans (by simp [World.cell?, ha1])
    exact ⟨hc 0, hc 1, hc 2, hc 3, hc 4, hc 5, hc 6, hc 7, hc 8⟩
  have HC := Lib.hid (fun wz hb => (HBX.out.below (w' := wz) hb).cells)
  obtain ⟨n0, hn0⟩ : ∃ n, m.types.length = n := ⟨_, rfl⟩
  obtain ⟨n1, hn1⟩ : ∃ n, m.imps.length = n := ⟨_, rfl⟩
  obtain ⟨nf, hnf⟩ : ∃ n, m.funs.length = n := ⟨_, rfl⟩
  obtain ⟨n3, hn3⟩ : ∃ n, m.mems.length = n := ⟨_, rfl⟩
  obtain ⟨n4, hn4⟩ : ∃ n, m.globs.length = n := ⟨_, rfl⟩
  obtain ⟨n5, hn5⟩ : ∃ n, m.exps.length = n := ⟨_, rfl⟩
  obtain ⟨n6, hn6⟩ : ∃ n, m.datas.length = n := ⟨_, rfl⟩
  obtain ⟨n7, hn7⟩ : ∃ n, m.cus.length = n := ⟨_, rfl⟩
  have hfb := hs.funs.1
  rw [hn0, hn1, hnf, hn3, hn4, hn5, hn6, hn7] at HBX HC hw3 ⊢
  rw [hnf] at hf hfb
  have HN0 := Lib.hid hn0
  have HN1 := Lib.hid hn1
  have HN2 := Lib.hid hnf
  have HN3 := Lib.hid hn3
  have HN4 := Lib.hid hn4
  have HN5 := Lib.hid hn5
  have HN6 := Lib.hid hn6
  have HN7 := Lib.hid hn7
  clear hn0 hn1 hnf hn3 hn4 hn5 hn6 hn7 hm hs hbm ha0 ha1 ha2 hsz hK
  go_enter Try.func11, Try.ntmps11
  go_upto_region 1 with (fail)
  rw [show zeroM = #[.slice none 0 0, .slice none 0 0, .slice none 0 0, .slice none 0 0, .slice none 0 0, .slice none 0 0, .slice none 0 0, .slice none 0 0] from rfl] at hw3
  rw [← hw3]
  clear hw3
  have hc := HC.out w3 (Below.refl _ _)
  obtain ⟨k0, k1, k2, k3, k4, k5, k6, k7⟩ := hc
  have ht := HT.out w3 (Below.refl _ _)
  obtain ⟨t0, t1, t2, t3, t4, t5, t6, t7, t8⟩ := ht
  simp only at k0 k1 k2 k3 k4 k5 k6 k7
  have d3 : max (nf : Int) 1 = (nf : Int) := by omega
  go_wp2_with fail
  go_at_call 23
  refine (at_any pos nf hf (by omega) _).mono ?_
  rintro e w1 ⟨⟨q, hq, rfl⟩, rfl⟩
  clear d3
  have dq : decide ((q : Int) < (nf : Int)) = true := by simp; omega
  have d4 : (what.tmod 4 != 3) = false := by simpa using h3
  clear h3
  go_wp2_with fail
  go_at_call 25
  refine (within0_is what 1048576 (by decide) _).mono ?_
  rintro e w4 ⟨rfl, rfl⟩
  rw [show ((1048576 : Nat) : Int) + 1 = 1048577 by decide]
  obtain ⟨r, hr⟩ : ∃ r : Nat, what % 1048577 = (r : Int) := ⟨(what % 1048577).toNat, by omega⟩
  rw [hr] at HKK ⊢
  have hr2 : r < 1048577 := by omega
  clear hr
  obtain ⟨dd, hdd⟩ : ∃ d : Nat, r / 4 = d := ⟨_, rfl⟩
  have e1 : (r : Int) / 4 = (dd : Int) := by omega
  rw [e1] at HKK
  have ew : wrap64 (dd : Int) = (dd : Int) := IntWalk.wrap64_in _ (by omega)
  obtain ⟨kk, e2⟩ : ∃ kk : Int, (dd : Int) % 9 = kk := ⟨_, rfl⟩
  rw [e2] at HKK
  have e3 : (dd : Int).tmod 9 = kk := (Int.tmod_eq_emod_of_nonneg (Int.natCast_nonneg dd)).trans e2
  clear hdd hr2
  go_upto_block 0 with (fail)
  go_cut [] from 8 to 213 (fun wx => ∃ (v' : Mv) (m' : Mdl), Hid (Box K w (k + 1) wx v' m'))
  case first =>
    clear e1 ew
    rcases HKK.out with hk9
    all_goals
      clear HKK
      subst hk9
      clear e2 e3
    · go_upto_region 20 with (fail)
      refine Rest.start (X := 19) (S := fun w' => Below w3.drew.heap.size w3.drew w') (by kernel_rfl) ?_
      have HT4 := Lib.hid (fun wz (hb : Below w3.drew.heap.size w3.drew wz) => HT.out wz ((below_drewN (Below.refl w3.heap.size w3) 1).trans hb))
      have HC4 := Lib.hid (fun wz (hb : Below w3.drew.heap.size w3.drew wz) => HC.out wz ((below_drewN (Below.refl w3.heap.size w3) 1).trans hb))
      have HX4 := Lib.hid (HBX.out.below (below_drewN (Below.refl _ _) 1))
      change Hid (Box _ _ _ w3.drew _ _) at HX4
      have hR := Rows.nil (Below.refl w3.drew.heap.size w3.drew)
      clear HT HC HBX
      generalize w3.drew = w4 at hR HT4 HC4 HX4 ⊢
      obtain ⟨us, hnw, hgd, hon, hlb⟩ := HX4.out.news6
      simp only at hnw
      generalize hLL : m.datas.length = nn at hnw hgd hlb
      have hnn : n6 = nn := HN6.out.symm.trans hLL
      subst hnn
      have HNW := Lib.hid hnw
      have HGD := Lib.hid hgd
      have HUL := Lib.hid hgd.1
      have HON := Lib.hid hon
      have HLB := Lib.hid (show n6 + 1 ≤ 1000000 by omega)
      have HLL := Lib.hid hLL
      clear hnw hgd hon hlb hLL
      show Rest _ _ _ _ _ _ 20 #[false, false, false, false, false, false, false, false, false, false, false, false, false, false, false, false, false, false, false, false] _ _
      refine Rest.take (i := 1) (oi := ⟨some 114, _, _, _, _, _⟩) (v := ?_) rfl (by kernel_rfl) (by kernel_rfl) (by kernel_rfl) (by kernel_rfl) (fun _ _ _ h => h) (Or.inl ⟨by rfl, ?_⟩) hR.bl ?_
      rotate_left
      · intro w' hSw; go_simp; try with_reducible rfl
      try simp only [Act.put, List.setIfInBounds_toArray, List.set]
      refine Rest.take (i := 2) (oi := ⟨some 115, _, _, _, _, _⟩) (v := ?_) rfl (by kernel_rfl) (by kernel_rfl) (by kernel_rfl) (by kernel_rfl) (fun _ _ _ h => h) (Or.inl ⟨by rfl, ?_⟩) hR.bl ?_
      rotate_left
      · intro w' hSw; have kc := (HC4.out w' hSw).c6; go_simp; try with_reducible rfl
      try simp only [Act.put, List.setIfInBounds_toArray, List.set]
      refine Rest.take (i := 4) (oi := ⟨some 117, _, _, _, _, _⟩) (v := ?_) rfl (by kernel_rfl) (by kernel_rfl) (by kernel_rfl) (by kernel_rfl) (fun _ _ _ h => h) (Or.inl ⟨by rfl, ?_⟩) hR.bl ?_
      rotate_left
      · intro w' hSw; go_simp; try with_reducible rfl
      try simp only [Act.put, List.setIfInBounds_toArray, List.set]
      refine Rest.take (i := 5) (oi := ⟨some 118, _, _, _, _, _⟩) (v := ?_) rfl (by kernel_rfl) (by kernel_rfl) (by kernel_rfl) (by kernel_rfl) (fun _ _ _ h => h) (Or.inl ⟨by rfl, ?_⟩) hR.bl ?_
      rotate_left
      · intro w' hSw; have kc := (HT4.out w' hSw).t1; go_simp; try with_reducible rfl
      try simp only [Act.put, List.setIfInBounds_toArray, List.set]
      refine Rest.take (i := 6) (oi := ⟨some 119, _, _, _, _, _⟩) (v := ?_) rfl (by kernel_rfl) (by kernel_rfl) (by kernel_rfl) (by kernel_rfl) (fun _ _ _ h => h) (Or.inl ⟨by rfl, ?_⟩) hR.bl ?_
      rotate_left
      · intro w' hSw; go_simp; try with_reducible rfl
      try simp only [Act.put, List.setIfInBounds_toArray, List.set]
      refine Rest.take (i := 7) (oi := ⟨some 120, _, _, _, _, _⟩) (v := ?_) rfl (by kernel_rfl) (by kernel_rfl) (by kernel_rfl) (by kernel_rfl) (fun _ _ _ h => h) (Or.inl ⟨by rfl, ?_⟩) hR.bl ?_
      rotate_left
      · intro w' hSw; go_simp; try with_reducible rfl
      try simp only [Act.put, List.setIfInBounds_toArray, List.set]
      refine Rest.take (i := 8) (oi := ⟨some 121, _, _, _, _, _⟩) (v := ?_) rfl (by kernel_rfl) (by kernel_rfl) (by kernel_rfl) (by kernel_rfl) (fun _ _ _ h => h) (Or.inl ⟨by rfl, ?_⟩) hR.bl ?_
      rotate_left
      · intro w' hSw; go_simp; try with_reducible rfl
      try simp only [Act.put, List.setIfInBounds_toArray, List.set]
      refine Rest.take (i := 9) (oi := ⟨some 122, _, _, _, _, _⟩) (v := ?_) rfl (by kernel_rfl) (by kernel_rfl) (by kernel_rfl) (by kernel_rfl) (fun _ _ _ h => h) (Or.inl ⟨by rfl, ?_⟩) hR.bl ?_
      rotate_left
      · intro w' hSw; go_simp; try with_reducible rfl
      try simp only [Act.put, List.setIfInBounds_toArray, List.set]
      refine Rest.take (i := 10) (oi := ⟨some 123, _, _, _, _, _⟩) (v := ?_) rfl (by kernel_rfl) (by kernel_rfl) (by kernel_rfl) (by kernel_rfl) (fun _ _ _ h => h) (Or.inl ⟨by rfl, ?_⟩) hR.bl ?_
      rotate_left
      · intro w' hSw; go_simp; try with_reducible rfl
      try simp only [Act.put, List.setIfInBounds_toArray, List.set]
      refine Rest.take (i := 11) (oi := ⟨some 124, _, _, _, _, _⟩) (v := ?_) rfl (by kernel_rfl) (by kernel_rfl) (by kernel_rfl) (by kernel_rfl) (fun _ _ _ h => h) (Or.inl ⟨by rfl, ?_⟩) hR.bl ?_
      rotate_left
      · intro w' hSw; have kc := (HT4.out w' hSw).t1; go_simp; try with_reducible rfl
      try simp only [Act.put, List.setIfInBounds_toArray, List.set]
      refine Rest.take (i := 12) (oi := ⟨some 125, _, _, _, _, _⟩) (v := ?_) rfl (by kernel_rfl) (by kernel_rfl) (by kernel_rfl) (by kernel_rfl) (fun _ _ _ h => h) (Or.inl ⟨by rfl, ?_⟩) hR.bl ?_
      rotate_left
      · intro w' hSw; go_simp; try with_reducible rfl
      try simp only [Act.put, List.setIfInBounds_toArray, List.set]
      refine Rest.two (i := 0) (j := 13) (by kernel_rfl) ?_ ?_
      · skip
        refine Comes.mk (o := ⟨some 113, _, _, _, _, _⟩) rfl (fun K hK => ?_)
        go_simp
        replace hR := hR.lit 69 4 0 #[] rfl (by decide)
        refine hK.out _ _ (.inr hR.bl) ?_
        clear hK K
        try simp only [List.setIfInBounds_toArray, List.set]
        generalize (w4.alloc (.cells #[] 69)) = x1 at hR ⊢
        refine Rest.two (i := 3) (j := 13) (by kernel_rfl) ?_ ?_
        · skip
          refine Comes.mk (o := ⟨some 116, _, _, _, _, _⟩) rfl (fun K hK => ?_)
          refine step_append_row rfl (.tmp 113) (.tmp 115) 30 69 rfl _ 4 48 Try.underlying30 Try.infoData rfl (by decide) (by decide) (.slice (some ⟨w4.heap.size, 0, none⟩) 0 0) 0 [] (by rfl) hR.head _ n6 us (by rfl) HUL.out (HNW.out.below hR.bl) HON.out (by have := HLB.out; omega) ?_
          intro v2 x2 ho2 hg2 hat2
          simp only [Nat.zero_add, List.nil_append] at ho2
          replace hR := hR.grow hg2 ho2 hat2
          obtain ⟨A2, c2, rfl⟩ := owns_slice ho2
          clear ho2 hg2 hat2
          refine hK.out _ _ (.inr hR.bl) ?_
          clear hK K
          try simp only [Act.put, List.setIfInBounds_toArray, List.set]
          refine Rest.one (i := 13) (by kernel_rfl) ?_
          refine Comes.mk (o := ⟨some 126, _, _, _, _, _⟩) rfl (fun K hK => ?_)
          go_simp
          replace hR := hR.lit 5 1 3 #[.int .u8 111, .int .u8 100, .int .u8 100] rfl (by decide)
          refine hK.out _ _ (.inr hR.bl) ?_
          clear hK K
          try simp only [List.setIfInBounds_toArray, List.set]
          generalize (x2.alloc (.cells #[.int .u8 111, .int .u8 100, .int .u8 100] 5)) = x3 at hR ⊢
          refine Rest.one (i := 14) (by kernel_rfl) ?_
          refine Comes.mk (o := ⟨some 127, _, _, _, _, _⟩) rfl (fun K hK => ?_)
          have hcv := conv_owned hR.head
          go_simp
          clear hcv
          replace hR := hR.mark
          refine hK.out _ _ (.inr hR.bl) ?_
          clear hK K
          try simp only [List.setIfInBounds_toArray, List.set]
          generalize (x3.freeze ⟨x2.heap.size, 3, none⟩ 1) = x4 at hR ⊢
          refine Rest.take (i := 15) (oi := ⟨some 128, _, _, _, _, _⟩) (v := ?_) rfl (by kernel_rfl) (by kernel_rfl) (by kernel_rfl) (by kernel_rfl) (fun _ _ _ h => h) (Or.inl ⟨by rfl, ?_⟩) hR.bl ?_
          rotate_left
          · intro w' hSw; go_simp; try with_reducible rfl
          try simp only [Act.put, List.setIfInBounds_toArray, List.set]
          refine Rest.one (i := 16) (by kernel_rfl) ?_
          refine Comes.mk (o := ⟨some 129, _, _, _, _, _⟩) rfl (fun K hK => ?_)
          go_simp
          replace hR := hR.lit 69 4 1 #[.bool ((Go.bits .and .i64 pos 1) == 0), .int .i64 (Go.bits .and .i64 to_ 3), .int .i64 (Go.bits .and .i64 pos 2047), .slice (some ⟨x2.heap.size, 0, none⟩) 3 3] rfl (by decide)
          refine hK.out _ _ (.inr hR.bl) ?_
          clear hK K
          try simp only [List.setIfInBounds_toArray, List.set]
          generalize (x4.alloc (.cells #[.bool ((Go.bits .and .i64 pos 1) == 0), .int .i64 (Go.bits .and .i64 to_ 3), .int .i64 (Go.bits .and .i64 pos 2047), .slice (some ⟨x2.heap.size, 0, none⟩) 3 3] 69)) = x5 at hR ⊢
          refine Rest.one (i := 17) (by kernel_rfl) ?_
          refine Comes.mk (o := ⟨some 130, _, _, _, _, _⟩) rfl (fun K hK => ?_)
          replace hR := hR.pull3
          refine step_append_row rfl (.tmp 116) (.tmp 129) 30 69 rfl _ 4 48 Try.underlying30 Try.infoData rfl (by decide) (by decide) (.slice A2 n6 c2) n6 us (by rfl) hR.head (.slice (some ⟨x4.heap.size, 0, none⟩) 1 1) 1 [.bool ((Go.bits .and .i64 pos 1) == 0), .int .i64 (Go.bits .and .i64 to_ 3), .int .i64 (Go.bits .and .i64 pos 2047), .slice (some ⟨x2.heap.size, 0, none⟩) 3 3] (by rfl) (by rfl) (owns_news hR.tail.head) (by simp [Value.oneCell']) HLB.out ?_
          intro v6 x6 ho6 hg6 hat6
          replace hR := hR.grow hg6 ho6 hat6
          obtain ⟨A6, c6, rfl⟩ := owns_slice ho6
          clear ho6 hg6 hat6
          refine hK.out _ _ (.inr hR.bl) ?_
          clear hK K
          try simp only [Act.put, List.setIfInBounds_toArray, List.set]
          refine Rest.take (i := 18) (oi := ⟨some 131, _, _, _, _, _⟩) (v := ?_) rfl (by kernel_rfl) (by kernel_rfl) (by kernel_rfl) (by kernel_rfl) (fun _ _ _ h => h) (Or.inl ⟨by rfl, ?_⟩) hR.bl ?_
          rotate_left
          · intro w' hSw; go_simp; try with_reducible rfl
          try simp only [Act.put, List.setIfInBounds_toArray, List.set]
          refine Rest.one (i := 19) (by kernel_rfl) ?_
          refine Comes.mk (o := ⟨none, _, _, _, _, _⟩) rfl (fun K hK => ?_)
          have kx := (HC4.out _ hR.bl).c6
          have fx := (HX4.out.below hR.bl).frozen 6
          simp only at kx
          go_simp
          refine hK.out _ _ (.inl rfl) ?_
          clear hK K
          refine Rest.done (by kernel_rfl) ?_ _
          obtain ⟨m', hb⟩ := HX4.out.push6 hR HGD.out HLL.out (GoodR.one (us := [.bool ((Go.bits .and .i64 pos 1) == 0), .int .i64 (Go.bits .and .i64 to_ 3), .int .i64 (Go.bits .and .i64 pos 2047), .slice (some ⟨x2.heap.size, 0, none⟩) 3 3]) ⟨(Go.bits .and .i64 pos 1) == 0, (Go.bits .and .i64 to_ 3), (Go.bits .and .i64 pos 2047), [111, 100, 100]⟩ rfl (by simp [bndD]) (fun i hi => match i, hi with | 0, _ => ⟨_, rfl, rfl⟩ | 1, _ => ⟨_, rfl, rfl⟩ | 2, _ => ⟨_, rfl, rfl⟩ | 3, _ => ⟨_, rfl, hR.bytes HX4.out.three (zs := [111, 100, 100]) (List.mem_cons_of_mem _ (List.mem_cons_of_mem _ (List.mem_cons_self ..))) rfl (by decide) (by decide)⟩ | _ + 4, h => absurd h (by omega)))
          have HB5 := Lib.hid hb
          clear hb hR
          go_wp2
          go_meet
          exact ⟨_, m', HB5⟩
        · skip
          refine Comes.mk (o := ⟨some 126, _, _, _, _, _⟩) rfl (fun K hK => ?_)
          go_simp
          replace hR := hR.lit 5 1 3 #[.int .u8 111, .int .u8 100, .int .u8 100] rfl (by decide)
          refine hK.out _ _ (.inr hR.bl) ?_
          clear hK K
          try simp only [List.setIfInBounds_toArray, List.set]
          generalize (x1.alloc (.cells #[.int .u8 111, .int .u8 100, .int .u8 100] 5)) = x7 at hR ⊢
          refine Rest.two (i := 3) (j := 14) (by kernel_rfl) ?_ ?_
          · skip
            refine Comes.mk (o := ⟨some 116, _, _, _, _, _⟩) rfl (fun K hK => ?_)
            replace hR := hR.swap
            refine step_append_row rfl (.tmp 113) (.tmp 115) 30 69 rfl _ 4 48 Try.underlying30 Try.infoData rfl (by decide) (by decide) (.slice (some ⟨w4.heap.size, 0, none⟩) 0 0) 0 [] (by rfl) hR.head _ n6 us (by rfl) HUL.out (HNW.out.below hR.bl) HON.out (by have := HLB.out; omega) ?_
            intro v8 x8 ho8 hg8 hat8
            simp only [Nat.zero_add, List.nil_append] at ho8
            replace hR := hR.grow hg8 ho8 hat8
            obtain ⟨A8, c8, rfl⟩ := owns_slice ho8
            clear ho8 hg8 hat8
            refine hK.out _ _ (.inr hR.bl) ?_
            clear hK K
            try simp only [Act.put, List.setIfInBounds_toArray, List.set]
            refine Rest.one (i := 14) (by kernel_rfl) ?_
            refine Comes.mk (o := ⟨some 127, _, _, _, _, _⟩) rfl (fun K hK => ?_)
            replace hR := hR.swap
            have hcv := conv_owned hR.head
            go_simp
            clear hcv
            replace hR := hR.mark
            refine hK.out _ _ (.inr hR.bl) ?_
            clear hK K
            try simp only [List.setIfInBounds_toArray, List.set]
            generalize (x8.freeze ⟨x1.heap.size, 3, none⟩ 1) = x9 at hR ⊢
            refine Rest.take (i := 15) (oi := ⟨some 128, _, _, _, _, _⟩) (v := ?_) rfl (by kernel_rfl) (by kernel_rfl) (by kernel_rfl) (by kernel_rfl) (fun _ _ _ h => h) (Or.inl ⟨by rfl, ?_⟩) hR.bl ?_
            rotate_left
            · intro w' hSw; go_simp; try with_reducible rfl
            try simp only [Act.put, List.setIfInBounds_toArray, List.set]
            refine Rest.one (i := 16) (by kernel_rfl) ?_
            refine Comes.mk (o := ⟨some 129, _, _, _, _, _⟩) rfl (fun K hK => ?_)
            go_simp
            replace hR := hR.lit 69 4 1 #[.bool ((Go.bits .and .i64 pos 1) == 0), .int .i64 (Go.bits .and .i64 to_ 3), .int .i64 (Go.bits .and .i64 pos 2047), .slice (some ⟨x1.heap.size, 0, none⟩) 3 3] rfl (by decide)
            refine hK.out _ _ (.inr hR.bl) ?_
            clear hK K
            try simp only [List.setIfInBounds_toArray, List.set]
            generalize (x9.alloc (.cells #[.bool ((Go.bits .and .i64 pos 1) == 0), .int .i64 (Go.bits .and .i64 to_ 3), .int .i64 (Go.bits .and .i64 pos 2047), .slice (some ⟨x1.heap.size, 0, none⟩) 3 3] 69)) = x10 at hR ⊢
            refine Rest.one (i := 17) (by kernel_rfl) ?_
            refine Comes.mk (o := ⟨some 130, _, _, _, _, _⟩) rfl (fun K hK => ?_)
            replace hR := hR.pull3
            refine step_append_row rfl (.tmp 116) (.tmp 129) 30 69 rfl _ 4 48 Try.underlying30 Try.infoData rfl (by decide) (by decide) (.slice A8 n6 c8) n6 us (by rfl) hR.head (.slice (some ⟨x9.heap.size, 0, none⟩) 1 1) 1 [.bool ((Go.bits .and .i64 pos 1) == 0), .int .i64 (Go.bits .and .i64 to_ 3), .int .i64 (Go.bits .and .i64 pos 2047), .slice (some ⟨x1.heap.size, 0, none⟩) 3 3] (by rfl) (by rfl) (owns_news hR.tail.head) (by simp [Value.oneCell']) HLB.out ?_
            intro v11 x11 ho11 hg11 hat11
            replace hR := hR.grow hg11 ho11 hat11
            obtain ⟨A11, c11, rfl⟩ := owns_slice ho11
            clear ho11 hg11 hat11
            refine hK.out _ _ (.inr hR.bl) ?_
            clear hK K
            try simp only [Act.put, List.setIfInBounds_toArray, List.set]
            refine Rest.take (i := 18) (oi := ⟨some 131, _, _, _, _, _⟩) (v := ?_) rfl (by kernel_rfl) (by kernel_rfl) (by kernel_rfl) (by kernel_rfl) (fun _ _ _ h => h) (Or.inl ⟨by rfl, ?_⟩) hR.bl ?_
            rotate_left
            · intro w' hSw; go_simp; try with_reducible rfl
            try simp only [Act.put, List.setIfInBounds_toArray, List.set]
            refine Rest.one (i := 19) (by kernel_rfl) ?_
            refine Comes.mk (o := ⟨none, _, _, _, _, _⟩) rfl (fun K hK => ?_)
            have kx := (HC4.out _ hR.bl).c6
            have fx := (HX4.out.below hR.bl).frozen 6
            simp only at kx
            go_simp
            refine hK.out _ _ (.inl rfl) ?_
            clear hK K
            refine Rest.done (by kernel_rfl) ?_ _
            obtain ⟨m', hb⟩ := HX4.out.push6 hR HGD.out HLL.out (GoodR.one (us := [.bool ((Go.bits .and .i64 pos 1) == 0), .int .i64 (Go.bits .and .i64 to_ 3), .int .i64 (Go.bits .and .i64 pos 2047), .slice (some ⟨x1.heap.size, 0, none⟩) 3 3]) ⟨(Go.bits .and .i64 pos 1) == 0, (Go.bits .and .i64 to_ 3), (Go.bits .and .i64 pos 2047), [111, 100, 100]⟩ rfl (by simp [bndD]) (fun i hi => match i, hi with | 0, _ => ⟨_, rfl, rfl⟩ | 1, _ => ⟨_, rfl, rfl⟩ | 2, _ => ⟨_, rfl, rfl⟩ | 3, _ => ⟨_, rfl, hR.bytes HX4.out.three (zs := [111, 100, 100]) (List.mem_cons_of_mem _ (List.mem_cons_of_mem _ (List.mem_cons_self ..))) rfl (by decide) (by decide)⟩ | _ + 4, h => absurd h (by omega)))
            have HB5 := Lib.hid hb
            clear hb hR
            go_wp2
            go_meet
            exact ⟨_, m', HB5⟩
          · skip
            refine Comes.mk (o := ⟨some 127, _, _, _, _, _⟩) rfl (fun K hK => ?_)
            have hcv := conv_owned hR.head
            go_simp
            clear hcv
            replace hR := hR.mark
            refine hK.out _ _ (.inr hR.bl) ?_
            clear hK K
            try simp only [List.setIfInBounds_toArray, List.set]
            generalize (x7.freeze ⟨x1.heap.size, 3, none⟩ 1) = x12 at hR ⊢
            refine Rest.take (i := 15) (oi := ⟨some 128, _, _, _, _, _⟩) (v := ?_) rfl (by kernel_rfl) (by kernel_rfl) (by kernel_rfl) (by kernel_rfl) (fun _ _ _ h => h) (Or.inl ⟨by rfl, ?_⟩) hR.bl ?_
            rotate_left
            · intro w' hSw; go_simp; try with_reducible rfl
            try simp only [Act.put, List.setIfInBounds_toArray, List.set]
            refine Rest.two (i := 3) (j := 16) (by kernel_rfl) ?_ ?_
            · skip
              refine Comes.mk (o := ⟨some 116, _, _, _, _, _⟩) rfl (fun K hK => ?_)
              replace hR := hR.swap
              refine step_append_row rfl (.tmp 113) (.tmp 115) 30 69 rfl _ 4 48 Try.underlying30 Try.infoData rfl (by decide) (by decide) (.slice (some ⟨w4.heap.size, 0, none⟩) 0 0) 0 [] (by rfl) hR.head _ n6 us (by rfl) HUL.out (HNW.out.below hR.bl) HON.out (by have := HLB.out; omega) ?_
              intro v13 x13 ho13 hg13 hat13
              simp only [Nat.zero_add, List.nil_append] at ho13
              replace hR := hR.grow hg13 ho13 hat13
              obtain ⟨A13, c13, rfl⟩ := owns_slice ho13
              clear ho13 hg13 hat13
              refine hK.out _ _ (.inr hR.bl) ?_
              clear hK K
              try simp only [Act.put, List.setIfInBounds_toArray, List.set]
              refine Rest.one (i := 16) (by kernel_rfl) ?_
              refine Comes.mk (o := ⟨some 129, _, _, _, _, _⟩) rfl (fun K hK => ?_)
              go_simp
              replace hR := hR.lit 69 4 1 #[.bool ((Go.bits .and .i64 pos 1) == 0), .int .i64 (Go.bits .and .i64 to_ 3), .int .i64 (Go.bits .and .i64 pos 2047), .slice (some ⟨x1.heap.size, 0, none⟩) 3 3] rfl (by decide)
              refine hK.out _ _ (.inr hR.bl) ?_
              clear hK K
              try simp only [List.setIfInBounds_toArray, List.set]
              generalize (x13.alloc (.cells #[.bool ((Go.bits .and .i64 pos 1) == 0), .int .i64 (Go.bits .and .i64 to_ 3), .int .i64 (Go.bits .and .i64 pos 2047), .slice (some ⟨x1.heap.size, 0, none⟩) 3 3] 69)) = x14 at hR ⊢
              refine Rest.one (i := 17) (by kernel_rfl) ?_
              refine Comes.mk (o := ⟨some 130, _, _, _, _, _⟩) rfl (fun K hK => ?_)
              replace hR := hR.swap
              refine step_append_row rfl (.tmp 116) (.tmp 129) 30 69 rfl _ 4 48 Try.underlying30 Try.infoData rfl (by decide) (by decide) (.slice A13 n6 c13) n6 us (by rfl) hR.head (.slice (some ⟨x13.heap.size, 0, none⟩) 1 1) 1 [.bool ((Go.bits .and .i64 pos 1) == 0), .int .i64 (Go.bits .and .i64 to_ 3), .int .i64 (Go.bits .and .i64 pos 2047), .slice (some ⟨x1.heap.size, 0, none⟩) 3 3] (by rfl) (by rfl) (owns_news hR.tail.head) (by simp [Value.oneCell']) HLB.out ?_
              intro v15 x15 ho15 hg15 hat15
              replace hR := hR.grow hg15 ho15 hat15
              obtain ⟨A15, c15, rfl⟩ := owns_slice ho15
              clear ho15 hg15 hat15
              refine hK.out _ _ (.inr hR.bl) ?_
              clear hK K
              try simp only [Act.put, List.setIfInBounds_toArray, List.set]
              refine Rest.take (i := 18) (oi := ⟨some 131, _, _, _, _, _⟩) (v := ?_) rfl (by kernel_rfl) (by kernel_rfl) (by kernel_rfl) (by kernel_rfl) (fun _ _ _ h => h) (Or.inl ⟨by rfl, ?_⟩) hR.bl ?_
              rotate_left
              · intro w' hSw; go_simp; try with_reducible rfl
              try simp only [Act.put, List.setIfInBounds_toArray, List.set]
              refine Rest.one (i := 19) (by kernel_rfl) ?_
              refine Comes.mk (o := ⟨none, _, _, _, _, _⟩) rfl (fun K hK => ?_)
              have kx := (HC4.out _ hR.bl).c6
              have fx := (HX4.out.below hR.bl).frozen 6
              simp only at kx
              go_simp
              refine hK.out _ _ (.inl rfl) ?_
              clear hK K
              refine Rest.done (by kernel_rfl) ?_ _
              obtain ⟨m', hb⟩ := HX4.out.push6 hR HGD.out HLL.out (GoodR.one (us := [.bool ((Go.bits .and .i64 pos 1) == 0), .int .i64 (Go.bits .and .i64 to_ 3), .int .i64 (Go.bits .and .i64 pos 2047), .slice (some ⟨x1.heap.size, 0, none⟩) 3 3]) ⟨(Go.bits .and .i64 pos 1) == 0, (Go.bits .and .i64 to_ 3), (Go.bits .and .i64 pos 2047), [111, 100, 100]⟩ rfl (by simp [bndD]) (fun i hi => match i, hi with | 0, _ => ⟨_, rfl, rfl⟩ | 1, _ => ⟨_, rfl, rfl⟩ | 2, _ => ⟨_, rfl, rfl⟩ | 3, _ => ⟨_, rfl, hR.bytes HX4.out.three (zs := [111, 100, 100]) (List.mem_cons_of_mem _ (List.mem_cons_of_mem _ (List.mem_cons_self ..))) rfl (by decide) (by decide)⟩ | _ + 4, h => absurd h (by omega)))
              have HB5 := Lib.hid hb
              clear hb hR
              go_wp2
              go_meet
              exact ⟨_, m', HB5⟩
            · skip
              refine Comes.mk (o := ⟨some 129, _, _, _, _, _⟩) rfl (fun K hK => ?_)
              go_simp
              replace hR := hR.lit 69 4 1 #[.bool ((Go.bits .and .i64 pos 1) == 0), .int .i64 (Go.bits .and .i64 to_ 3), .int .i64 (Go.bits .and .i64 pos 2047), .slice (some ⟨x1.heap.size, 0, none⟩) 3 3] rfl (by decide)
              refine hK.out _ _ (.inr hR.bl) ?_
              clear hK K
              try simp only [List.setIfInBounds_toArray, List.set]
              generalize (x12.alloc (.cells #[.bool ((Go.bits .and .i64 pos 1) == 0), .int .i64 (Go.bits .and .i64 to_ 3), .int .i64 (Go.bits .and .i64 pos 2047), .slice (some ⟨x1.heap.size, 0, none⟩) 3 3] 69)) = x16 at hR ⊢
              refine Rest.one (i := 3) (by kernel_rfl) ?_
              refine Comes.mk (o := ⟨some 116, _, _, _, _, _⟩) rfl (fun K hK => ?_)
              replace hR := hR.pull3
              refine step_append_row rfl (.tmp 113) (.tmp 115) 30 69 rfl _ 4 48 Try.underlying30 Try.infoData rfl (by decide) (by decide) (.slice (some ⟨w4.heap.size, 0, none⟩) 0 0) 0 [] (by rfl) hR.head _ n6 us (by rfl) HUL.out (HNW.out.below hR.bl) HON.out (by have := HLB.out; omega) ?_
              intro v17 x17 ho17 hg17 hat17
              simp only [Nat.zero_add, List.nil_append] at ho17
              replace hR := hR.grow hg17 ho17 hat17
              obtain ⟨A17, c17, rfl⟩ := owns_slice ho17
              clear ho17 hg17 hat17
              refine hK.out _ _ (.inr hR.bl) ?_
              clear hK K
              try simp only [Act.put, List.setIfInBounds_toArray, List.set]
              refine Rest.one (i := 17) (by kernel_rfl) ?_
              refine Comes.mk (o := ⟨some 130, _, _, _, _, _⟩) rfl (fun K hK => ?_)
              refine step_append_row rfl (.tmp 116) (.tmp 129) 30 69 rfl _ 4 48 Try.underlying30 Try.infoData rfl (by decide) (by decide) (.slice A17 n6 c17) n6 us (by rfl) hR.head (.slice (some ⟨x12.heap.size, 0, none⟩) 1 1) 1 [.bool ((Go.bits .and .i64 pos 1) == 0), .int .i64 (Go.bits .and .i64 to_ 3), .int .i64 (Go.bits .and .i64 pos 2047), .slice (some ⟨x1.heap.size, 0, none⟩) 3 3] (by rfl) (by rfl) (owns_news hR.tail.head) (by simp [Value.oneCell']) HLB.out ?_
              intro v18 x18 ho18 hg18 hat18
              replace hR := hR.grow hg18 ho18 hat18
              obtain ⟨A18, c18, rfl⟩ := owns_slice ho18
              clear ho18 hg18 hat18
              refine hK.out _ _ (.inr hR.bl) ?_
              clear hK K
              try simp only [Act.put, List.setIfInBounds_toArray, List.set]
              refine Rest.take (i := 18) (oi := ⟨some 131, _, _, _, _, _⟩) (v := ?_) rfl (by kernel_rfl) (by kernel_rfl) (by kernel_rfl) (by kernel_rfl) (fun _ _ _ h => h) (Or.inl ⟨by rfl, ?_⟩) hR.bl ?_
              rotate_left
              · intro w' hSw; go_simp; try with_reducible rfl
              try simp only [Act.put, List.setIfInBounds_toArray, List.set]
              refine Rest.one (i := 19) (by kernel_rfl) ?_
              refine Comes.mk (o := ⟨none, _, _, _, _, _⟩) rfl (fun K hK => ?_)
              have kx := (HC4.out _ hR.bl).c6
              have fx := (HX4.out.below hR.bl).frozen 6
              simp only at kx
              go_simp
              refine hK.out _ _ (.inl rfl) ?_
              clear hK K
              refine Rest.done (by kernel_rfl) ?_ _
              obtain ⟨m', hb⟩ := HX4.out.push6 hR HGD.out HLL.out (GoodR.one (us := [.bool ((Go.bits .and .i64 pos 1) == 0), .int .i64 (Go.bits .and .i64 to_ 3), .int .i64 (Go.bits .and .i64 pos 2047), .slice (some ⟨x1.heap.size, 0, none⟩) 3 3]) ⟨(Go.bits .and .i64 pos 1) == 0, (Go.bits .and .i64 to_ 3), (Go.bits .and .i64 pos 2047), [111, 100, 100]⟩ rfl (by simp [bndD]) (fun i hi => match i, hi with | 0, _ => ⟨_, rfl, rfl⟩ | 1, _ => ⟨_, rfl, rfl⟩ | 2, _ => ⟨_, rfl, rfl⟩ | 3, _ => ⟨_, rfl, hR.bytes HX4.out.three (zs := [111, 100, 100]) (List.mem_cons_of_mem _ (List.mem_cons_of_mem _ (List.mem_cons_self ..))) rfl (by decide) (by decide)⟩ | _ + 4, h => absurd h (by omega)))
              have HB5 := Lib.hid hb
              clear hb hR
              go_wp2
              go_meet
              exact ⟨_, m', HB5⟩
      · skip
        refine Comes.mk (o := ⟨some 126, _, _, _, _, _⟩) rfl (fun K hK => ?_)
        go_simp
        replace hR := hR.lit 5 1 3 #[.int .u8 111, .int .u8 100, .int .u8 100] rfl (by decide)
        refine hK.out _ _ (.inr hR.bl) ?_
        clear hK K
        try simp only [List.setIfInBounds_toArray, List.set]
        generalize (w4.alloc (.cells #[.int .u8 111, .int .u8 100, .int .u8 100] 5)) = x19 at hR ⊢
        refine Rest.two (i := 0) (j := 14) (by kernel_rfl) ?_ ?_
        · skip
          refine Comes.mk (o := ⟨some 113, _, _, _, _, _⟩) rfl (fun K hK => ?_)
          go_simp
          replace hR := hR.lit 69 4 0 #[] rfl (by decide)
          refine hK.out _ _ (.inr hR.bl) ?_
          clear hK K
          try simp only [List.setIfInBounds_toArray, List.set]
          generalize (x19.alloc (.cells #[] 69)) = x20 at hR ⊢
          refine Rest.two (i := 3) (j := 14) (by kernel_rfl) ?_ ?_
          · skip
            refine Comes.mk (o := ⟨some 116, _, _, _, _, _⟩) rfl (fun K hK => ?_)
            refine step_append_row rfl (.tmp 113) (.tmp 115) 30 69 rfl _ 4 48 Try.underlying30 Try.infoData rfl (by decide) (by decide) (.slice (some ⟨x19.heap.size, 0, none⟩) 0 0) 0 [] (by rfl) hR.head _ n6 us (by rfl) HUL.out (HNW.out.below hR.bl) HON.out (by have := HLB.out; omega) ?_
            intro v21 x21 ho21 hg21 hat21
            simp only [Nat.zero_add, List.nil_append] at ho21
            replace hR := hR.grow hg21 ho21 hat21
            obtain ⟨A21, c21, rfl⟩ := owns_slice ho21
            clear ho21 hg21 hat21
            refine hK.out _ _ (.inr hR.bl) ?_
            clear hK K
            try simp only [Act.put, List.setIfInBounds_toArray, List.set]
            refine Rest.one (i := 14) (by kernel_rfl) ?_
            refine Comes.mk (o := ⟨some 127, _, _, _, _, _⟩) rfl (fun K hK => ?_)
            replace hR := hR.swap
            have hcv := conv_owned hR.head
            go_simp
            clear hcv
            replace hR := hR.mark
            refine hK.out _ _ (.inr hR.bl) ?_
            clear hK K
            try simp only [List.setIfInBounds_toArray, List.set]
            generalize (x21.freeze ⟨w4.heap.size, 3, none⟩ 1) = x22 at hR ⊢
            refine Rest.take (i := 15) (oi := ⟨some 128, _, _, _, _, _⟩) (v := ?_) rfl (by kernel_rfl) (by kernel_rfl) (by kernel_rfl) (by kernel_rfl) (fun _ _ _ h => h) (Or.inl ⟨by rfl, ?_⟩) hR.bl ?_
            rotate_left
            · intro w' hSw; go_simp; try with_reducible rfl
            try simp only [Act.put, List.setIfInBounds_toArray, List.set]
            refine Rest.one (i := 16) (by kernel_rfl) ?_
            refine Comes.mk (o := ⟨some 129, _, _, _, _, _⟩) rfl (fun K hK => ?_)
            go_simp
            replace hR := hR.lit 69 4 1 #[.bool ((Go.bits .and .i64 pos 1) == 0), .int .i64 (Go.bits .and .i64 to_ 3), .int .i64 (Go.bits .and .i64 pos 2047), .slice (some ⟨w4.heap.size, 0, none⟩) 3 3] rfl (by decide)
            refine hK.out _ _ (.inr hR.bl) ?_
            clear hK K
            try simp only [List.setIfInBounds_toArray, List.set]
            generalize (x22.alloc (.cells #[.bool ((Go.bits .and .i64 pos 1) == 0), .int .i64 (Go.bits .and .i64 to_ 3), .int .i64 (Go.bits .and .i64 pos 2047), .slice (some ⟨w4.heap.size, 0, none⟩) 3 3] 69)) = x23 at hR ⊢
            refine Rest.one (i := 17) (by kernel_rfl) ?_
            refine Comes.mk (o := ⟨some 130, _, _, _, _, _⟩) rfl (fun K hK => ?_)
            replace hR := hR.pull3
            refine step_append_row rfl (.tmp 116) (.tmp 129) 30 69 rfl _ 4 48 Try.underlying30 Try.infoData rfl (by decide) (by decide) (.slice A21 n6 c21) n6 us (by rfl) hR.head (.slice (some ⟨x22.heap.size, 0, none⟩) 1 1) 1 [.bool ((Go.bits .and .i64 pos 1) == 0), .int .i64 (Go.bits .and .i64 to_ 3), .int .i64 (Go.bits .and .i64 pos 2047), .slice (some ⟨w4.heap.size, 0, none⟩) 3 3] (by rfl) (by rfl) (owns_news hR.tail.head) (by simp [Value.oneCell']) HLB.out ?_
            intro v24 x24 ho24 hg24 hat24
            replace hR := hR.grow hg24 ho24 hat24
            obtain ⟨A24, c24, rfl⟩ := owns_slice ho24
            clear ho24 hg24 hat24
            refine hK.out _ _ (.inr hR.bl) ?_
            clear hK K
            try simp only [Act.put, List.setIfInBounds_toArray, List.set]
            refine Rest.take (i := 18) (oi := ⟨some 131, _, _, _, _, _⟩) (v := ?_) rfl (by kernel_rfl) (by kernel_rfl) (by kernel_rfl) (by kernel_rfl) (fun _ _ _ h => h) (Or.inl ⟨by rfl, ?_⟩) hR.bl ?_
            rotate_left
            · intro w' hSw; go_simp; try with_reducible rfl
            try simp only [Act.put, List.setIfInBounds_toArray, List.set]
            refine Rest.one (i := 19) (by kernel_rfl) ?_
            refine Comes.mk (o := ⟨none, _, _, _, _, _⟩) rfl (fun K hK => ?_)
            have kx := (HC4.out _ hR.bl).c6
            have fx := (HX4.out.below hR.bl).frozen 6
            simp only at kx
            go_simp
            refine hK.out _ _ (.inl rfl) ?_
            clear hK K
            refine Rest.done (by kernel_rfl) ?_ _
            obtain ⟨m', hb⟩ := HX4.out.push6 hR HGD.out HLL.out (GoodR.one (us := [.bool ((Go.bits .and .i64 pos 1) == 0), .int .i64 (Go.bits .and .i64 to_ 3), .int .i64 (Go.bits .and .i64 pos 2047), .slice (some ⟨w4.heap.size, 0, none⟩) 3 3]) ⟨(Go.bits .and .i64 pos 1) == 0, (Go.bits .and .i64 to_ 3), (Go.bits .and .i64 pos 2047), [111, 100, 100]⟩ rfl (by simp [bndD]) (fun i hi => match i, hi with | 0, _ => ⟨_, rfl, rfl⟩ | 1, _ => ⟨_, rfl, rfl⟩ | 2, _ => ⟨_, rfl, rfl⟩ | 3, _ => ⟨_, rfl, hR.bytes HX4.out.three (zs := [111, 100, 100]) (List.mem_cons_of_mem _ (List.mem_cons_of_mem _ (List.mem_cons_self ..))) rfl (by decide) (by decide)⟩ | _ + 4, h => absurd h (by omega)))
            have HB5 := Lib.hid hb
            clear hb hR
            go_wp2
            go_meet
            exact ⟨_, m', HB5⟩
          · skip
            refine Comes.mk (o := ⟨some 127, _, _, _, _, _⟩) rfl (fun K hK => ?_)
            replace hR := hR.swap
            have hcv := conv_owned hR.head
            go_simp
            clear hcv
            replace hR := hR.mark
            refine hK.out _ _ (.inr hR.bl) ?_
            clear hK K
            try simp only [List.setIfInBounds_toArray, List.set]
            generalize (x20.freeze ⟨w4.heap.size, 3, none⟩ 1) = x25 at hR ⊢
            refine Rest.take (i := 15) (oi := ⟨some 128, _, _, _, _, _⟩) (v := ?_) rfl (by kernel_rfl) (by kernel_rfl) (by kernel_rfl) (by kernel_rfl) (fun _ _ _ h => h) (Or.inl ⟨by rfl, ?_⟩) hR.bl ?_
            rotate_left
            · intro w' hSw; go_simp; try with_reducible rfl
            try simp only [Act.put, List.setIfInBounds_toArray, List.set]
            refine Rest.two (i := 3) (j := 16) (by kernel_rfl) ?_ ?_
            · skip
              refine Comes.mk (o := ⟨some 116, _, _, _, _, _⟩) rfl (fun K hK => ?_)
              replace hR := hR.swap
              refine step_append_row rfl (.tmp 113) (.tmp 115) 30 69 rfl _ 4 48 Try.underlying30 Try.infoData rfl (by decide) (by decide) (.slice (some ⟨x19.heap.size, 0, none⟩) 0 0) 0 [] (by rfl) hR.head _ n6 us (by rfl) HUL.out (HNW.out.below hR.bl) HON.out (by have := HLB.out; omega) ?_
              intro v26 x26 ho26 hg26 hat26
              simp only [Nat.zero_add, List.nil_append] at ho26
              replace hR := hR.grow hg26 ho26 hat26
              obtain ⟨A26, c26, rfl⟩ := owns_slice ho26
              clear ho26 hg26 hat26
              refine hK.out _ _ (.inr hR.bl) ?_
              clear hK K
              try simp only [Act.put, List.setIfInBounds_toArray, List.set]
              refine Rest.one (i := 16) (by kernel_rfl) ?_
              refine Comes.mk (o := ⟨some 129, _, _, _, _, _⟩) rfl (fun K hK => ?_)
              go_simp
              replace hR := hR.lit 69 4 1 #[.bool ((Go.bits .and .i64 pos 1) == 0), .int .i64 (Go.bits .and .i64 to_ 3), .int .i64 (Go.bits .and .i64 pos 2047), .slice (some ⟨w4.heap.size, 0, none⟩) 3 3] rfl (by decide)
              refine hK.out _ _ (.inr hR.bl) ?_
              clear hK K
              try simp only [List.setIfInBounds_toArray, List.set]
              generalize (x26.alloc (.cells #[.bool ((Go.bits .and .i64 pos 1) == 0), .int .i64 (Go.bits .and .i64 to_ 3), .int .i64 (Go.bits .and .i64 pos 2047), .slice (some ⟨w4.heap.size, 0, none⟩) 3 3] 69)) = x27 at hR ⊢
              refine Rest.one (i := 17) (by kernel_rfl) ?_
              refine Comes.mk (o := ⟨some 130, _, _, _, _, _⟩) rfl (fun K hK => ?_)
              replace hR := hR.swap
              refine step_append_row rfl (.tmp 116) (.tmp 129) 30 69 rfl _ 4 48 Try.underlying30 Try.infoData rfl (by decide) (by decide) (.slice A26 n6 c26) n6 us (by rfl) hR.head (.slice (some ⟨x26.heap.size, 0, none⟩) 1 1) 1 [.bool ((Go.bits .and .i64 pos 1) == 0), .int .i64 (Go.bits .and .i64 to_ 3), .int .i64 (Go.bits .and .i64 pos 2047), .slice (some ⟨w4.heap.size, 0, none⟩) 3 3] (by rfl) (by rfl) (owns_news hR.tail.head) (by simp [Value.oneCell']) HLB.out ?_
              intro v28 x28 ho28 hg28 hat28
              replace hR := hR.grow hg28 ho28 hat28
              obtain ⟨A28, c28, rfl⟩ := owns_slice ho28
              clear ho28 hg28 hat28
              refine hK.out _ _ (.inr hR.bl) ?_
              clear hK K
              try simp only [Act.put, List.setIfInBounds_toArray, List.set]
              refine Rest.take (i := 18) (oi := ⟨some 131, _, _, _, _, _⟩) (v := ?_) rfl (by kernel_rfl) (by kernel_rfl) (by kernel_rfl) (by kernel_rfl) (fun _ _ _ h => h) (Or.inl ⟨by rfl, ?_⟩) hR.bl ?_
              rotate_left
              · intro w' hSw; go_simp; try with_reducible rfl
              try simp only [Act.put, List.setIfInBounds_toArray, List.set]
              refine Rest.one (i := 19) (by kernel_rfl) ?_
              refine Comes.mk (o := ⟨none, _, _, _, _, _⟩) rfl (fun K hK => ?_)
              have kx := (HC4.out _ hR.bl).c6
              have fx := (HX4.out.below hR.bl).frozen 6
              simp only at kx
              go_simp
              refine hK.out _ _ (.inl rfl) ?_
              clear hK K
              refine Rest.done (by kernel_rfl) ?_ _
              obtain ⟨m', hb⟩ := HX4.out.push6 hR HGD.out HLL.out (GoodR.one (us := [.bool ((Go.bits .and .i64 pos 1) == 0), .int .i64 (Go.bits .and .i64 to_ 3), .int .i64 (Go.bits .and .i64 pos 2047), .slice (some ⟨w4.heap.size, 0, none⟩) 3 3]) ⟨(Go.bits .and .i64 pos 1) == 0, (Go.bits .and .i64 to_ 3), (Go.bits .and .i64 pos 2047), [111, 100, 100]⟩ rfl (by simp [bndD]) (fun i hi => match i, hi with | 0, _ => ⟨_, rfl, rfl⟩ | 1, _ => ⟨_, rfl, rfl⟩ | 2, _ => ⟨_, rfl, rfl⟩ | 3, _ => ⟨_, rfl, hR.bytes HX4.out.three (zs := [111, 100, 100]) (List.mem_cons_of_mem _ (List.mem_cons_of_mem _ (List.mem_cons_self ..))) rfl (by decide) (by decide)⟩ | _ + 4, h => absurd h (by omega)))
              have HB5 := Lib.hid hb
              clear hb hR
              go_wp2
              go_meet
              exact ⟨_, m', HB5⟩
            · skip
              refine Comes.mk (o := ⟨some 129, _, _, _, _, _⟩) rfl (fun K hK => ?_)
              go_simp
              replace hR := hR.lit 69 4 1 #[.bool ((Go.bits .and .i64 pos 1) == 0), .int .i64 (Go.bits .and .i64 to_ 3), .int .i64 (Go.bits .and .i64 pos 2047), .slice (some ⟨w4.heap.size, 0, none⟩) 3 3] rfl (by decide)
              refine hK.out _ _ (.inr hR.bl) ?_
              clear hK K
              try simp only [List.setIfInBounds_toArray, List.set]
              generalize (x25.alloc (.cells #[.bool ((Go.bits .and .i64 pos 1) == 0), .int .i64 (Go.bits .and .i64 to_ 3), .int .i64 (Go.bits .and .i64 pos 2047), .slice (some ⟨w4.heap.size, 0, none⟩) 3 3] 69)) = x29 at hR ⊢
              refine Rest.one (i := 3) (by kernel_rfl) ?_
              refine Comes.mk (o := ⟨some 116, _, _, _, _, _⟩) rfl (fun K hK => ?_)
              replace hR := hR.pull3
              refine step_append_row rfl (.tmp 113) (.tmp 115) 30 69 rfl _ 4 48 Try.underlying30 Try.infoData rfl (by decide) (by decide) (.slice (some ⟨x19.heap.size, 0, none⟩) 0 0) 0 [] (by rfl) hR.head _ n6 us (by rfl) HUL.out (HNW.out.below hR.bl) HON.out (by have := HLB.out; omega) ?_
              intro v30 x30 ho30 hg30 hat30
              simp only [Nat.zero_add, List.nil_append] at ho30
              replace hR := hR.grow hg30 ho30 hat30
              obtain ⟨A30, c30, rfl⟩ := owns_slice ho30
              clear ho30 hg30 hat30
              refine hK.out _ _ (.inr hR.bl) ?_
              clear hK K
              try simp only [Act.put, List.setIfInBounds_toArray, List.set]
              refine Rest.one (i := 17) (by kernel_rfl) ?_
              refine Comes.mk (o := ⟨some 130, _, _, _, _, _⟩) rfl (fun K hK => ?_)
              refine step_append_row rfl (.tmp 116) (.tmp 129) 30 69 rfl _ 4 48 Try.underlying30 Try.infoData rfl (by decide) (by decide) (.slice A30 n6 c30) n6 us (by rfl) hR.head (.slice (some ⟨x25.heap.size, 0, none⟩) 1 1) 1 [.bool ((Go.bits .and .i64 pos 1) == 0), .int .i64 (Go.bits .and .i64 to_ 3), .int .i64 (Go.bits .and .i64 pos 2047), .slice (some ⟨w4.heap.size, 0, none⟩) 3 3] (by rfl) (by rfl) (owns_news hR.tail.head) (by simp [Value.oneCell']) HLB.out ?_
              intro v31 x31 ho31 hg31 hat31
              replace hR := hR.grow hg31 ho31 hat31
              obtain ⟨A31, c31, rfl⟩ := owns_slice ho31
              clear ho31 hg31 hat31
              refine hK.out _ _ (.inr hR.bl) ?_
              clear hK K
              try simp only [Act.put, List.setIfInBounds_toArray, List.set]
              refine Rest.take (i := 18) (oi := ⟨some 131, _, _, _, _, _⟩) (v := ?_) rfl (by kernel_rfl) (by kernel_rfl) (by kernel_rfl) (by kernel_rfl) (fun _ _ _ h => h) (Or.inl ⟨by rfl, ?_⟩) hR.bl ?_
              rotate_left
              · intro w' hSw; go_simp; try with_reducible rfl
              try simp only [Act.put, List.setIfInBounds_toArray, List.set]
              refine Rest.one (i := 19) (by kernel_rfl) ?_
              refine Comes.mk (o := ⟨none, _, _, _, _, _⟩) rfl (fun K hK => ?_)
              have kx := (HC4.out _ hR.bl).c6
              have fx := (HX4.out.below hR.bl).frozen 6
              simp only at kx
              go_simp
              refine hK.out _ _ (.inl rfl) ?_
              clear hK K
              refine Rest.done (by kernel_rfl) ?_ _
              obtain ⟨m', hb⟩ := HX4.out.push6 hR HGD.out HLL.out (GoodR.one (us := [.bool ((Go.bits .and .i64 pos 1) == 0), .int .i64 (Go.bits .and .i64 to_ 3), .int .i64 (Go.bits .and .i64 pos 2047), .slice (some ⟨w4.heap.size, 0, none⟩) 3 3]) ⟨(Go.bits .and .i64 pos 1) == 0, (Go.bits .and .i64 to_ 3), (Go.bits .and .i64 pos 2047), [111, 100, 100]⟩ rfl (by simp [bndD]) (fun i hi => match i, hi with | 0, _ => ⟨_, rfl, rfl⟩ | 1, _ => ⟨_, rfl, rfl⟩ | 2, _ => ⟨_, rfl, rfl⟩ | 3, _ => ⟨_, rfl, hR.bytes HX4.out.three (zs := [111, 100, 100]) (List.mem_cons_of_mem _ (List.mem_cons_of_mem _ (List.mem_cons_self ..))) rfl (by decide) (by decide)⟩ | _ + 4, h => absurd h (by omega)))
              have HB5 := Lib.hid hb
              clear hb hR
              go_wp2
              go_meet
              exact ⟨_, m', HB5⟩
        · skip
          refine Comes.mk (o := ⟨some 127, _, _, _, _, _⟩) rfl (fun K hK => ?_)
          have hcv := conv_owned hR.head
          go_simp
          clear hcv
          replace hR := hR.mark
          refine hK.out _ _ (.inr hR.bl) ?_
          clear hK K
          try simp only [List.setIfInBounds_toArray, List.set]
          generalize (x19.freeze ⟨w4.heap.size, 3, none⟩ 1) = x32 at hR ⊢
          refine Rest.take (i := 15) (oi := ⟨some 128, _, _, _, _, _⟩) (v := ?_) rfl (by kernel_rfl) (by kernel_rfl) (by kernel_rfl) (by kernel_rfl) (fun _ _ _ h => h) (Or.inl ⟨by rfl, ?_⟩) hR.bl ?_
          rotate_left
          · intro w' hSw; go_simp; try with_reducible rfl
          try simp only [Act.put, List.setIfInBounds_toArray, List.set]
          refine Rest.two (i := 0) (j := 16) (by kernel_rfl) ?_ ?_
          · skip
            refine Comes.mk (o := ⟨some 113, _, _, _, _, _⟩) rfl (fun K hK => ?_)
            go_simp
            replace hR := hR.lit 69 4 0 #[] rfl (by decide)
            refine hK.out _ _ (.inr hR.bl) ?_
            clear hK K
            try simp only [List.setIfInBounds_toArray, List.set]
            generalize (x32.alloc (.cells #[] 69)) = x33 at hR ⊢
            refine Rest.two (i := 3) (j := 16) (by kernel_rfl) ?_ ?_
            · skip
              refine Comes.mk (o := ⟨some 116, _, _, _, _, _⟩) rfl (fun K hK => ?_)
              refine step_append_row rfl (.tmp 113) (.tmp 115) 30 69 rfl _ 4 48 Try.underlying30 Try.infoData rfl (by decide) (by decide) (.slice (some ⟨x32.heap.size, 0, none⟩) 0 0) 0 [] (by rfl) hR.head _ n6 us (by rfl) HUL.out (HNW.out.below hR.bl) HON.out (by have := HLB.out; omega) ?_
              intro v34 x34 ho34 hg34 hat34
              simp only [Nat.zero_add, List.nil_append] at ho34
              replace hR := hR.grow hg34 ho34 hat34
              obtain ⟨A34, c34, rfl⟩ := owns_slice ho34
              clear ho34 hg34 hat34
              refine hK.out _ _ (.inr hR.bl) ?_
              clear hK K
              try simp only [Act.put, List.setIfInBounds_toArray, List.set]
              refine Rest.one (i := 16) (by kernel_rfl) ?_
              refine Comes.mk (o := ⟨some 129, _, _, _, _, _⟩) rfl (fun K hK => ?_)
              go_simp
              replace hR := hR.lit 69 4 1 #[.bool ((Go.bits .and .i64 pos 1) == 0), .int .i64 (Go.bits .and .i64 to_ 3), .int .i64 (Go.bits .and .i64 pos 2047), .slice (some ⟨w4.heap.size, 0, none⟩) 3 3] rfl (by decide)
              refine hK.out _ _ (.inr hR.bl) ?_
              clear hK K
              try simp only [List.setIfInBounds_toArray, List.set]
              generalize (x34.alloc (.cells #[.bool ((Go.bits .and .i64 pos 1) == 0), .int .i64 (Go.bits .and .i64 to_ 3), .int .i64 (Go.bits .and .i64 pos 2047), .slice (some ⟨w4.heap.size, 0, none⟩) 3 3] 69)) = x35 at hR ⊢
              refine Rest.one (i := 17) (by kernel_rfl) ?_
              refine Comes.mk (o := ⟨some 130, _, _, _, _, _⟩) rfl (fun K hK => ?_)
              replace hR := hR.swap
              refine step_append_row rfl (.tmp 116) (.tmp 129) 30 69 rfl _ 4 48 Try.underlying30 Try.infoData rfl (by decide) (by decide) (.slice A34 n6 c34) n6 us (by rfl) hR.head (.slice (some ⟨x34.heap.size, 0, none⟩) 1 1) 1 [.bool ((Go.bits .and .i64 pos 1) == 0), .int .i64 (Go.bits .and .i64 to_ 3), .int .i64 (Go.bits .and .i64 pos 2047), .slice (some ⟨w4.heap.size, 0, none⟩) 3 3] (by rfl) (by rfl) (owns_news hR.tail.head) (by simp [Value.oneCell']) HLB.out ?_
              intro v36 x36 ho36 hg36 hat36
              replace hR := hR.grow hg36 ho36 hat36
              obtain ⟨A36, c36, rfl⟩ := owns_slice ho36
              clear ho36 hg36 hat36
              refine hK.out _ _ (.inr hR.bl) ?_
              clear hK K
              try simp only [Act.put, List.setIfInBounds_toArray, List.set]
              refine Rest.take (i := 18) (oi := ⟨some 131, _, _, _, _, _⟩) (v := ?_) rfl (by kernel_rfl) (by kernel_rfl) (by kernel_rfl) (by kernel_rfl) (fun _ _ _ h => h) (Or.inl ⟨by rfl, ?_⟩) hR.bl ?_
              rotate_left
              · intro w' hSw; go_simp; try with_reducible rfl
              try simp only [Act.put, List.setIfInBounds_toArray, List.set]
              refine Rest.one (i := 19) (by kernel_rfl) ?_
              refine Comes.mk (o := ⟨none, _, _, _, _, _⟩) rfl (fun K hK => ?_)
              have kx := (HC4.out _ hR.bl).c6
              have fx := (HX4.out.below hR.bl).frozen 6
              simp only at kx
              go_simp
              refine hK.out _ _ (.inl rfl) ?_
              clear hK K
              refine Rest.done (by kernel_rfl) ?_ _
              obtain ⟨m', hb⟩ := HX4.out.push6 hR HGD.out HLL.out (GoodR.one (us := [.bool ((Go.bits .and .i64 pos 1) == 0), .int .i64 (Go.bits .and .i64 to_ 3), .int .i64 (Go.bits .and .i64 pos 2047), .slice (some ⟨w4.heap.size, 0, none⟩) 3 3]) ⟨(Go.bits .and .i64 pos 1) == 0, (Go.bits .and .i64 to_ 3), (Go.bits .and .i64 pos 2047), [111, 100, 100]⟩ rfl (by simp [bndD]) (fun i hi => match i, hi with | 0, _ => ⟨_, rfl, rfl⟩ | 1, _ => ⟨_, rfl, rfl⟩ | 2, _ => ⟨_, rfl, rfl⟩ | 3, _ => ⟨_, rfl, hR.bytes HX4.out.three (zs := [111, 100, 100]) (List.mem_cons_of_mem _ (List.mem_cons_of_mem _ (List.mem_cons_self ..))) rfl (by decide) (by decide)⟩ | _ + 4, h => absurd h (by omega)))
              have HB5 := Lib.hid hb
              clear hb hR
              go_wp2
              go_meet
              exact ⟨_, m', HB5⟩
            · skip
              refine Comes.mk (o := ⟨some 129, _, _, _, _, _⟩) rfl (fun K hK => ?_)
              go_simp
              replace hR := hR.lit 69 4 1 #[.bool ((Go.bits .and .i64 pos 1) == 0), .int .i64 (Go.bits .and .i64 to_ 3), .int .i64 (Go.bits .and .i64 pos 2047), .slice (some ⟨w4.heap.size, 0, none⟩) 3 3] rfl (by decide)
              refine hK.out _ _ (.inr hR.bl) ?_
              clear hK K
              try simp only [List.setIfInBounds_toArray, List.set]
              generalize (x33.alloc (.cells #[.bool ((Go.bits .and .i64 pos 1) == 0), .int .i64 (Go.bits .and .i64 to_ 3), .int .i64 (Go.bits .and .i64 pos 2047), .slice (some ⟨w4.heap.size, 0, none⟩) 3 3] 69)) = x37 at hR ⊢
              refine Rest.one (i := 3) (by kernel_rfl) ?_
              refine Comes.mk (o := ⟨some 116, _, _, _, _, _⟩) rfl (fun K hK => ?_)
              replace hR := hR.swap
              refine step_append_row rfl (.tmp 113) (.tmp 115) 30 69 rfl _ 4 48 Try.underlying30 Try.infoData rfl (by decide) (by decide) (.slice (some ⟨x32.heap.size, 0, none⟩) 0 0) 0 [] (by rfl) hR.head _ n6 us (by rfl) HUL.out (HNW.out.below hR.bl) HON.out (by have := HLB.out; omega) ?_
              intro v38 x38 ho38 hg38 hat38
              simp only [Nat.zero_add, List.nil_append] at ho38
              replace hR := hR.grow hg38 ho38 hat38
              obtain ⟨A38, c38, rfl⟩ := owns_slice ho38
              clear ho38 hg38 hat38
              refine hK.out _ _ (.inr hR.bl) ?_
              clear hK K
              try simp only [Act.put, List.setIfInBounds_toArray, List.set]
              refine Rest.one (i := 17) (by kernel_rfl) ?_
              refine Comes.mk (o := ⟨some 130, _, _, _, _, _⟩) rfl (fun K hK => ?_)
              refine step_append_row rfl (.tmp 116) (.tmp 129) 30 69 rfl _ 4 48 Try.underlying30 Try.infoData rfl (by decide) (by decide) (.slice A38 n6 c38) n6 us (by rfl) hR.head (.slice (some ⟨x33.heap.size, 0, none⟩) 1 1) 1 [.bool ((Go.bits .and .i64 pos 1) == 0), .int .i64 (Go.bits .and .i64 to_ 3), .int .i64 (Go.bits .and .i64 pos 2047), .slice (some ⟨w4.heap.size, 0, none⟩) 3 3] (by rfl) (by rfl) (owns_news hR.tail.head) (by simp [Value.oneCell']) HLB.out ?_
              intro v39 x39 ho39 hg39 hat39
              replace hR := hR.grow hg39 ho39 hat39
              obtain ⟨A39, c39, rfl⟩ := owns_slice ho39
              clear ho39 hg39 hat39
              refine hK.out _ _ (.inr hR.bl) ?_
              clear hK K
              try simp only [Act.put, List.setIfInBounds_toArray, List.set]
              refine Rest.take (i := 18) (oi := ⟨some 131, _, _, _, _, _⟩) (v := ?_) rfl (by kernel_rfl) (by kernel_rfl) (by kernel_rfl) (by kernel_rfl) (fun _ _ _ h => h) (Or.inl ⟨by rfl, ?_⟩) hR.bl ?_
              rotate_left
              · intro w' hSw; go_simp; try with_reducible rfl
              try simp only [Act.put, List.setIfInBounds_toArray, List.set]
              refine Rest.one (i := 19) (by kernel_rfl) ?_
              refine Comes.mk (o := ⟨none, _, _, _, _, _⟩) rfl (fun K hK => ?_)
              have kx := (HC4.out _ hR.bl).c6
              have fx := (HX4.out.below hR.bl).frozen 6
              simp only at kx
              go_simp
              refine hK.out _ _ (.inl rfl) ?_
              clear hK K
              refine Rest.done (by kernel_rfl) ?_ _
              obtain ⟨m', hb⟩ := HX4.out.push6 hR HGD.out HLL.out (GoodR.one (us := [.bool ((Go.bits .and .i64 pos 1) == 0), .int .i64 (Go.bits .and .i64 to_ 3), .int .i64 (Go.bits .and .i64 pos 2047), .slice (some ⟨w4.heap.size, 0, none⟩) 3 3]) ⟨(Go.bits .and .i64 pos 1) == 0, (Go.bits .and .i64 to_ 3), (Go.bits .and .i64 pos 2047), [111, 100, 100]⟩ rfl (by simp [bndD]) (fun i hi => match i, hi with | 0, _ => ⟨_, rfl, rfl⟩ | 1, _ => ⟨_, rfl, rfl⟩ | 2, _ => ⟨_, rfl, rfl⟩ | 3, _ => ⟨_, rfl, hR.bytes HX4.out.three (zs := [111, 100, 100]) (List.mem_cons_of_mem _ (List.mem_cons_of_mem _ (List.mem_cons_self ..))) rfl (by decide) (by decide)⟩ | _ + 4, h => absurd h (by omega)))
              have HB5 := Lib.hid hb
              clear hb hR
              go_wp2
              go_meet
              exact ⟨_, m', HB5⟩
          · skip
            refine Comes.mk (o := ⟨some 129, _, _, _, _, _⟩) rfl (fun K hK => ?_)
            go_simp
            replace hR := hR.lit 69 4 1 #[.bool ((Go.bits .and .i64 pos 1) == 0), .int .i64 (Go.bits .and .i64 to_ 3), .int .i64 (Go.bits .and .i64 pos 2047), .slice (some ⟨w4.heap.size, 0, none⟩) 3 3] rfl (by decide)
            refine hK.out _ _ (.inr hR.bl) ?_
            clear hK K
            try simp only [List.setIfInBounds_toArray, List.set]
            generalize (x32.alloc (.cells #[.bool ((Go.bits .and .i64 pos 1) == 0), .int .i64 (Go.bits .and .i64 to_ 3), .int .i64 (Go.bits .and .i64 pos 2047), .slice (some ⟨w4.heap.size, 0, none⟩) 3 3] 69)) = x40 at hR ⊢
            refine Rest.one (i := 0) (by kernel_rfl) ?_
            refine Comes.mk (o := ⟨some 113, _, _, _, _, _⟩) rfl (fun K hK => ?_)
            go_simp
            replace hR := hR.lit 69 4 0 #[] rfl (by decide)
            refine hK.out _ _ (.inr hR.bl) ?_
            clear hK K
            try simp only [List.setIfInBounds_toArray, List.set]
            generalize (x40.alloc (.cells #[] 69)) = x41 at hR ⊢
            refine Rest.one (i := 3) (by kernel_rfl) ?_
            refine Comes.mk (o := ⟨some 116, _, _, _, _, _⟩) rfl (fun K hK => ?_)
            refine step_append_row rfl (.tmp 113) (.tmp 115) 30 69 rfl _ 4 48 Try.underlying30 Try.infoData rfl (by decide) (by decide) (.slice (some ⟨x40.heap.size, 0, none⟩) 0 0) 0 [] (by rfl) hR.head _ n6 us (by rfl) HUL.out (HNW.out.below hR.bl) HON.out (by have := HLB.out; omega) ?_
            intro v42 x42 ho42 hg42 hat42
            simp only [Nat.zero_add, List.nil_append] at ho42
            replace hR := hR.grow hg42 ho42 hat42
            obtain ⟨A42, c42, rfl⟩ := owns_slice ho42
            clear ho42 hg42 hat42
            refine hK.out _ _ (.inr hR.bl) ?_
            clear hK K
            try simp only [Act.put, List.setIfInBounds_toArray, List.set]
            refine Rest.one (i := 17) (by kernel_rfl) ?_
            refine Comes.mk (o := ⟨some 130, _, _, _, _, _⟩) rfl (fun K hK => ?_)
            refine step_append_row rfl (.tmp 116) (.tmp 129) 30 69 rfl _ 4 48 Try.underlying30 Try.infoData rfl (by decide) (by decide) (.slice A42 n6 c42) n6 us (by rfl) hR.head (.slice (some ⟨x32.heap.size, 0, none⟩) 1 1) 1 [.bool ((Go.bits .and .i64 pos 1) == 0), .int .i64 (Go.bits .and .i64 to_ 3), .int .i64 (Go.bits .and .i64 pos 2047), .slice (some ⟨w4.heap.size, 0, none⟩) 3 3] (by rfl) (by rfl) (owns_news hR.tail.head) (by simp [Value.oneCell']) HLB.out ?_
            intro v43 x43 ho43 hg43 hat43
            replace hR := hR.grow hg43 ho43 hat43
            obtain ⟨A43, c43, rfl⟩ := owns_slice ho43
            clear ho43 hg43 hat43
            refine hK.out _ _ (.inr hR.bl) ?_
            clear hK K
            try simp only [Act.put, List.setIfInBounds_toArray, List.set]
            refine Rest.take (i := 18) (oi := ⟨some 131, _, _, _, _, _⟩) (v := ?_) rfl (by kernel_rfl) (by kernel_rfl) (by kernel_rfl) (by kernel_rfl) (fun _ _ _ h => h) (Or.inl ⟨by rfl, ?_⟩) hR.bl ?_
            rotate_left
            · intro w' hSw; go_simp; try with_reducible rfl
            try simp only [Act.put, List.setIfInBounds_toArray, List.set]
            refine Rest.one (i := 19) (by kernel_rfl) ?_
            refine Comes.mk (o := ⟨none, _, _, _, _, _⟩) rfl (fun K hK => ?_)
            have kx := (HC4.out _ hR.bl).c6
            have fx := (HX4.out.below hR.bl).frozen 6
            simp only at kx
            go_simp
            refine hK.out _ _ (.inl rfl) ?_
            clear hK K
            refine Rest.done (by kernel_rfl) ?_ _
            obtain ⟨m', hb⟩ := HX4.out.push6 hR HGD.out HLL.out (GoodR.one (us := [.bool ((Go.bits .and .i64 pos 1) == 0), .int .i64 (Go.bits .and .i64 to_ 3), .int .i64 (Go.bits .and .i64 pos 2047), .slice (some ⟨w4.heap.size, 0, none⟩) 3 3]) ⟨(Go.bits .and .i64 pos 1) == 0, (Go.bits .and .i64 to_ 3), (Go.bits .and .i64 pos 2047), [111, 100, 100]⟩ rfl (by simp [bndD]) (fun i hi => match i, hi with | 0, _ => ⟨_, rfl, rfl⟩ | 1, _ => ⟨_, rfl, rfl⟩ | 2, _ => ⟨_, rfl, rfl⟩ | 3, _ => ⟨_, rfl, hR.bytes HX4.out.three (zs := [111, 100, 100]) (List.mem_cons_of_mem _ (List.mem_cons_of_mem _ (List.mem_cons_self ..))) rfl (by decide) (by decide)⟩ | _ + 4, h => absurd h (by omega)))
            have HB5 := Lib.hid hb
            clear hb hR
            go_wp2
            go_meet
            exact ⟨_, m', HB5⟩
  case rest =>
    obtain ⟨v', m', HB⟩ := hcut
    clear HBX HC HT HKK k0 k1 k2 k3 k4 k5 k6 k7 t0 t1 t2 t3 t4 t5 t6 t7 t8
    obtain ⟨B0, e0, B1, e1, B2, e2, B3, e3, B4, e4, B5, e5, B6, e6, B7, e7, hv'⟩ := HB.out.at_.forms
    subst hv'
    generalize hl0 : m'.types.length = l0 at *
    clear hl0
    generalize hl1 : m'.imps.length = l1 at *
    clear hl1
    generalize hl2 : m'.funs.length = l2 at *
    clear hl2
    generalize hl3 : m'.mems.length = l3 at *
    clear hl3
    generalize hl4 : m'.globs.length = l4 at *
    clear hl4
    generalize hl5 : m'.exps.length = l5 at *
    clear hl5
    generalize hl6 : m'.datas.length = l6 at *
    clear hl6
    generalize hl7 : m'.cus.length = l7 at *
    clear hl7
    obtain ⟨kk0, kk1, kk2, kk3, kk4, kk5, kk6, kk7⟩ := HB.out.cells
    simp only at kk0 kk1 kk2 kk3 kk4 kk5 kk6 kk7
    obtain ⟨z0, s0⟩ := zeroed8 HB.out.res 0 (by omega)
    obtain ⟨z1, s1⟩ := zeroed8 HB.out.res 1 (by omega)
    obtain ⟨z2, s2⟩ := zeroed8 HB.out.res 2 (by omega)
    obtain ⟨z3, s3⟩ := zeroed8 HB.out.res 3 (by omega)
    obtain ⟨z4, s4⟩ := zeroed8 HB.out.res 4 (by omega)
    obtain ⟨z5, s5⟩ := zeroed8 HB.out.res 5 (by omega)
    obtain ⟨z6, s6⟩ := zeroed8 HB.out.res 6 (by omega)
    obtain ⟨z7, s7⟩ := zeroed8 HB.out.res 7 (by omega)
    have HBX0 := Lib.hid HB.out.lo
    have HFL := Lib.hid (fill8_at HB.out.res ⟨.slice B0 l0 e0, .slice B1 l1 e1, .slice B2 l2 e2, .slice B3 l3 e3, .slice B4 l4 e4, .slice B5 l5 e5, .slice B6 l6 e6, .slice B7 l7 e7⟩)
    have HFIN : Hid (OddPost K (k + 1) w (.returned (.agg #[.slice B0 l0 e0, .slice B1 l1 e1, .slice B2 l2 e2, .slice B3 l3 e3, .slice B4 l4 e4, .slice B5 l5 e5, .slice B6 l6 e6, .slice B7 l7 e7])) (fill8 wc (w.heap.size + 1 + 1) ⟨.slice B0 l0 e0, .slice B1 l1 e1, .slice B2 l2 e2, .slice B3 l3 e3, .slice B4 l4 e4, .slice B5 l5 e5, .slice B6 l6 e6, .slice B7 l7 e7⟩)) := Lib.hid ⟨⟨.slice B0 l0 e0, .slice B1 l1 e1, .slice B2 l2 e2, .slice B3 l3 e3, .slice B4 l4 e4, .slice B5 l5 e5, .slice B6 l6 e6, .slice B7 l7 e7⟩, m', rfl, HB.out.at_.keep ((fill8_keeps _ _ _).mono fun _ hk e => by rcases hk.2 with h2 | h2; (· have := HBX0.out _ h2; omega); (· omega)) (fun _ hk => hk.2.elim .inl fun h2 => .inr ⟨by omega, Nat.lt_of_lt_of_le hk.1 (fill8_keeps _ _ _).size⟩), HB.out.sz, below_fill8 HB.out.bl (by omega) _⟩
    clear HB
    go_wp2
    have hfl := HFL.out
    unfold fill8 at hfl
    have hfin := HFIN.out
    unfold fill8 at hfin
    simp only [Mv.cells] at hfl
    exact bodyPost_ret (v := .agg #[.slice B0 l0 e0, .slice B1 l1 e1, .slice B2 l2 e2, .slice B3 l3 e3, .slice B4 l4 e4, .slice B5 l5 e5, .slice B6 l6 e6, .slice B7 l7 e7]) (by simp [results, Try.results11, go_sem, World.cell?, hfl]) rfl hfin
end Go.Proofs.Ytloonhmemgidgaa
