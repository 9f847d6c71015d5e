/-
  Contract of the turns' odd: some of the cases of its switch.
  Contract of the turns' odd.
  Contract of the turns' Odd.
-/
import Derived.Test.YtloonhmemgidgaaJ4
import Derived.Test.YtloonhmemgidgaaJ5
import Derived.Test.YtloonhmemgidgaaJ6
namespace Go.Proofs.Ytloonhmemgidgaa
open Go.RowKit
set_option maxRecDepth 100000 in
set_option maxHeartbeats 100000000 in
theorem odd_S (K : Nat → Prop) (w : World) (hK : ∀ g, K g → g < w.heap.size) (v : Mv) (m : Mdl) (k : Nat) (hk : k ≤ 10) (hm : ModAt K w v m) (hs : Sz k m) (hf : 0 < m.funs.length) (t : Trn) (Lv : Value) (hL : IntsK K w Lv t.raw.l) (h3 : t.what.tmod 4 = 3) (hkk : t.what % 1048577 / 4 % 9 = 5 ∨ t.what % 1048577 / 4 % 9 = 7) :
    Calls Try.prog 11 #[.agg v.cells, t.val Lv] w (OddPost K (k + 1) w) := by
  obtain ⟨A0, c0, A1, c1, A2, c2, A3, c3, A4, c4, A5, c5, A6, c6, A7, c7, rfl⟩ := hm.forms
  obtain ⟨Al, cl, hLe, hLm, _⟩ := hL.form
  obtain ⟨nl, hnl⟩ : ∃ nl, t.raw.l.length = nl := ⟨_, rfl⟩
  rw [hnl] at hLe hLm
  have HL := Lib.hid hL
  obtain ⟨what, pos, to_, tn, op, ra, rb, rn, rl⟩ := t
  simp only at hLe HL h3 hkk
  have HKK := Lib.hid hkk
  clear hkk
  subst hLe
  clear hL hnl
  simp only [Trn.val, Mv.cells]
  obtain ⟨w3, hw3⟩ : ∃ w3, w3 = (((w.alloc (.cells #[.slice A0 m.types.length c0, .slice A1 m.imps.length c1, .slice A2 m.funs.length c2, .slice A3 m.mems.length c3, .slice A4 m.globs.length c4, .slice A5 m.exps.length c5, .slice A6 m.datas.length c6, .slice A7 m.cus.length c7] 33)).alloc (.cells #[.int .i64 what, .int .i64 pos, .int .i64 to_, .int .u64 tn, .int .i64 op, .int .i64 ra, .int .i64 rb, .int .u64 rn, .slice Al nl cl] 55)).alloc (.cells zeroM 33)) := ⟨_, rfl⟩
  have ha0 := alloc_fold [.cells #[.slice A0 m.types.length c0, .slice A1 m.imps.length c1, .slice A2 m.funs.length c2, .slice A3 m.mems.length c3, .slice A4 m.globs.length c4, .slice A5 m.exps.length c5, .slice A6 m.datas.length c6, .slice A7 m.cus.length c7] 33, .cells #[.int .i64 what, .int .i64 pos, .int .i64 to_, .int .u64 tn, .int .i64 op, .int .i64 ra, .int .i64 rb, .int .u64 rn, .slice Al nl cl] 55, .cells zeroM 33] w 0 _ rfl
  have ha1 := (alloc_fold [.cells #[.slice A0 m.types.length c0, .slice A1 m.imps.length c1, .slice A2 m.funs.length c2, .slice A3 m.mems.length c3, .slice A4 m.globs.length c4, .slice A5 m.exps.length c5, .slice A6 m.datas.length c6, .slice A7 m.cus.length c7] 33, .cells #[.int .i64 what, .int .i64 pos, .int .i64 to_, .int .u64 tn, .int .i64 op, .int .i64 ra, .int .i64 rb, .int .u64 rn, .slice Al nl cl] 55, .cells zeroM 33] w 1 _ rfl).1
  have ha2 := (alloc_fold [.cells #[.slice A0 m.types.length c0, .slice A1 m.imps.length c1, .slice A2 m.funs.length c2, .slice A3 m.mems.length c3, .slice A4 m.globs.length c4, .slice A5 m.exps.length c5, .slice A6 m.datas.length c6, .slice A7 m.cus.length c7] 33, .cells #[.int .i64 what, .int .i64 pos, .int .i64 to_, .int .u64 tn, .int .i64 op, .int .i64 ra, .int .i64 rb, .int .u64 rn, .slice Al nl cl] 55, .cells zeroM 33] w 2 _ rfl).1
  change (((w.alloc (.cells #[.slice A0 m.types.length c0, .slice A1 m.imps.length c1, .slice A2 m.funs.length c2, .slice A3 m.mems.length c3, .slice A4 m.globs.length c4, .slice A5 m.exps.length c5, .slice A6 m.datas.length c6, .slice A7 m.cus.length c7] 33)).alloc (.cells #[.int .i64 what, .int .i64 pos, .int .i64 to_, .int .u64 tn, .int .i64 op, .int .i64 ra, .int .i64 rb, .int .u64 rn, .slice Al nl cl] 55)).alloc (.cells zeroM 33)).heap[w.heap.size]? = _ ∧ Below w.heap.size w (((w.alloc (.cells #[.slice A0 m.types.length c0, .slice A1 m.imps.length c1, .slice A2 m.funs.length c2, .slice A3 m.mems.length c3, .slice A4 m.globs.length c4, .slice A5 m.exps.length c5, .slice A6 m.datas.length c6, .slice A7 m.cus.length c7] 33)).alloc (.cells #[.int .i64 what, .int .i64 pos, .int .i64 to_, .int .u64 tn, .int .i64 op, .int .i64 ra, .int .i64 rb, .int .u64 rn, .slice Al nl cl] 55)).alloc (.cells zeroM 33)) ∧ (((w.alloc (.cells #[.slice A0 m.types.length c0, .slice A1 m.imps.length c1, .slice A2 m.funs.length c2, .slice A3 m.mems.length c3, .slice A4 m.globs.length c4, .slice A5 m.exps.length c5, .slice A6 m.datas.length c6, .slice A7 m.cus.length c7] 33)).alloc (.cells #[.int .i64 what, .int .i64 pos, .int .i64 to_, .int .u64 tn, .int .i64 op, .int .i64 ra, .int .i64 rb, .int .u64 rn, .slice Al nl cl] 55)).alloc (.cells zeroM 33)).heap.size = w.heap.size + 3 at ha0
  change (((w.alloc (.cells #[.slice A0 m.types.length c0, .slice A1 m.imps.length c1, .slice A2 m.funs.length c2, .slice A3 m.mems.length c3, .slice A4 m.globs.length c4, .slice A5 m.exps.length c5, .slice A6 m.datas.length c6, .slice A7 m.cus.length c7] 33)).alloc (.cells #[.int .i64 what, .int .i64 pos, .int .i64 to_, .int .u64 tn, .int .i64 op, .int .i64 ra, .int .i64 rb, .int .u64 rn, .slice Al nl cl] 55)).alloc (.cells zeroM 33)).heap[w.heap.size + 1]? = _ at ha1
  change (((w.alloc (.cells #[.slice A0 m.types.length c0, .slice A1 m.imps.length c1, .slice A2 m.funs.length c2, .slice A3 m.mems.length c3, .slice A4 m.globs.length c4, .slice A5 m.exps.length c5, .slice A6 m.datas.length c6, .slice A7 m.cus.length c7] 33)).alloc (.cells #[.int .i64 what, .int .i64 pos, .int .i64 to_, .int .u64 tn, .int .i64 op, .int .i64 ra, .int .i64 rb, .int .u64 rn, .slice Al nl cl] 55)).alloc (.cells zeroM 33)).heap[w.heap.size + 2]? = _ at ha2
  rw [← hw3] at ha0 ha1 ha2
  obtain ⟨ha0, hbm, hsz⟩ := ha0
  have HBX : Hid (Box K w k w3 ⟨.slice A0 m.types.length c0, .slice A1 m.imps.length c1, .slice A2 m.funs.length c2, .slice A3 m.mems.length c3, .slice A4 m.globs.length c4, .slice A5 m.exps.length c5, .slice A6 m.datas.length c6, .slice A7 m.cus.length c7⟩ m) :=
    Lib.hid ⟨ha0, ha2, hm.keep (Keeps.below hbm hK) fun g hg => ⟨Nat.lt_of_lt_of_le (hK g hg) hbm.size, .inl hg⟩, hs, hbm, by rw [hsz]; exact Nat.le_refl _, hK⟩
  have HT : Hid (∀ wz, Below w3.heap.size w3 wz → TrnC w wz what pos to_ tn op ra rb rn (.slice Al nl cl)) := Lib.hid fun wz hb => by
    have hc : ∀ i, wz.cell? ⟨w.heap.size + 1, i, none⟩ = (#[.int .i64 what, .int .i64 pos, .int .i64 to_, .int .u64 tn, .int .i64 op, .int .i64 ra, .int .i64 rb, .int .u64 rn, .slice Al nl cl] : Array Value)[i]? := fun i => (hb.cell (p := ⟨w.heap.size + 1, i, none⟩) (by show w.heap.size + 1 < _; omega)).trans (by simp [World.cell?, ha1])
    exact ⟨hc 0, hc 1, hc 2, hc 3, hc 4, hc 5, hc 6, hc 7, hc 8⟩
  have HC := Lib.hid (fun wz hb => (HBX.out.below (w' := wz) hb).cells)
  obtain ⟨n0, hn0⟩ : ∃ n, m.types.length = n := ⟨_, rfl⟩
  obtain ⟨n1, hn1⟩ : ∃ n, m.imps.length = n := ⟨_, rfl⟩
  obtain ⟨nf, hnf⟩ : ∃ n, m.funs.length = n := ⟨_, rfl⟩
  obtain ⟨n3, hn3⟩ : ∃ n, m.mems.length = n := ⟨_, rfl⟩
  obtain ⟨n4, hn4⟩ : ∃ n, m.globs.length = n := ⟨_, rfl⟩
  obtain ⟨n5, hn5⟩ : ∃ n, m.exps.length = n := ⟨_, rfl⟩
  obtain ⟨n6, hn6⟩ : ∃ n, m.datas.length = n := ⟨_, rfl⟩
  obtain ⟨n7, hn7⟩ : ∃ n, m.cus.length = n := ⟨_, rfl⟩
  have hfb := hs.funs.1
  rw [hn0, hn1, hnf, hn3, hn4, hn5, hn6, hn7] at HBX HC hw3 ⊢
  rw [hnf] at hf hfb
  have HN0 := Lib.hid hn0
  have HN1 := Lib.hid hn1
  have HN2 := Lib.hid hnf
  have HN3 := Lib.hid hn3
  have HN4 := Lib.hid hn4
  have HN5 := Lib.hid hn5
  have HN6 := Lib.hid hn6
  have HN7 := Lib.hid hn7
  clear hn0 hn1 hnf hn3 hn4 hn5 hn6 hn7 hm hs hbm ha0 ha1 ha2 hsz hK
  go_enter Try.func11, Try.ntmps11
  go_upto_region 1 with (fail)
  rw [show zeroM = #[.slice none 0 0, .slice none 0 0, .slice none 0 0, .slice none 0 0, .slice none 0 0, .slice none 0 0, .slice none 0 0, .slice none 0 0] from rfl] at hw3
  rw [← hw3]
  clear hw3
  have hc := HC.out w3 (Below.refl _ _)
  obtain ⟨k0, k1, k2, k3, k4, k5, k6, k7⟩ := hc
  have ht := HT.out w3 (Below.refl _ _)
  obtain ⟨t0, t1, t2, t3, t4, t5, t6, t7, t8⟩ := ht
  simp only at k0 k1 k2 k3 k4 k5 k6 k7
  have d3 : max (nf : Int) 1 = (nf : Int) := by omega
  go_wp2_with fail
  go_at_call 23
  refine (at_any pos nf hf (by omega) _).mono ?_
  rintro e w1 ⟨⟨q, hq, rfl⟩, rfl⟩
  clear d3
  have dq : decide ((q : Int) < (nf : Int)) = true := by simp; omega
  have d4 : (what.tmod 4 != 3) = false := by simpa using h3
  clear h3
  go_wp2_with fail
  go_at_call 25
  refine (within0_is what 1048576 (by decide) _).mono ?_
  rintro e w4 ⟨rfl, rfl⟩
  rw [show ((1048576 : Nat) : Int) + 1 = 1048577 by decide]
  obtain ⟨r, hr⟩ : ∃ r : Nat, what % 1048577 = (r : Int) := ⟨(what % 1048577).toNat, by omega⟩
  rw [hr] at HKK ⊢
  have hr2 : r < 1048577 := by omega
  clear hr
  obtain ⟨dd, hdd⟩ : ∃ d : Nat, r / 4 = d := ⟨_, rfl⟩
  have e1 : (r : Int) / 4 = (dd : Int) := by omega
  rw [e1] at HKK
  have ew : wrap64 (dd : Int) = (dd : Int) := IntWalk.wrap64_in _ (by omega)
  obtain ⟨kk, e2⟩ : ∃ kk : Int, (dd : Int) % 9 = kk := ⟨_, rfl⟩
  rw [e2] at HKK
  have e3 : (dd : Int).tmod 9 = kk := (Int.tmod_eq_emod_of_nonneg (Int.natCast_nonneg dd)).trans e2
  clear hdd hr2
  go_upto_block 0 with (fail)
  go_cut [] from 8 to 213 (fun wx => ∃ (v' : Mv) (m' : Mdl), Hid (Box K w (k + 1) wx v' m'))
  case first =>
    clear e1 ew
    rcases HKK.out with hk9 | hk9
    all_goals
      clear HKK
      subst hk9
      clear e2 e3
    · obtain ⟨b1, hb1⟩ := byte_of to_
      obtain ⟨b2, hb2⟩ := byte_of pos
      go_upto_region 24 with (fail)
      refine Rest.start (X := 14) (S := fun w' => Below w3.drew.heap.size w3.drew w') (by kernel_rfl) ?_
      have HT4 := Lib.hid (fun wz (hb : Below w3.drew.heap.size w3.drew wz) => HT.out wz ((below_drewN (Below.refl w3.heap.size w3) 1).trans hb))
      have HC4 := Lib.hid (fun wz (hb : Below w3.drew.heap.size w3.drew wz) => HC.out wz ((below_drewN (Below.refl w3.heap.size w3) 1).trans hb))
      have HX4 := Lib.hid (HBX.out.below (below_drewN (Below.refl _ _) 1))
      change Hid (Box _ _ _ w3.drew _ _) at HX4
      have hR := Rows.nil (Below.refl w3.drew.heap.size w3.drew)
      clear HT HC HBX
      generalize w3.drew = w4 at hR HT4 HC4 HX4 ⊢
      obtain ⟨us, hnw, hgd, hon, hlb⟩ := HX4.out.news7
      simp only at hnw
      generalize hLL : m.cus.length = nn at hnw hgd hlb
      have hnn : n7 = nn := HN7.out.symm.trans hLL
      subst hnn
      have HNW := Lib.hid hnw
      have HGD := Lib.hid hgd
      have HUL := Lib.hid hgd.1
      have HON := Lib.hid hon
      have HLB := Lib.hid (show n7 + 1 ≤ 1000000 by omega)
      have HLL := Lib.hid hLL
      clear hnw hgd hon hlb hLL
      show Rest _ _ _ _ _ _ 15 #[false, false, false, false, false, false, false, false, false, false, false, false, false, false, false] _ _
      refine Rest.take (i := 1) (oi := ⟨some 157, _, _, _, _, _⟩) (v := ?_) rfl (by kernel_rfl) (by kernel_rfl) (by kernel_rfl) (by kernel_rfl) (fun _ _ _ h => h) (Or.inl ⟨by rfl, ?_⟩) hR.bl ?_
      rotate_left
      · intro w' hSw; go_simp; try with_reducible rfl
      try simp only [Act.put, List.setIfInBounds_toArray, List.set]
      refine Rest.take (i := 2) (oi := ⟨some 158, _, _, _, _, _⟩) (v := ?_) rfl (by kernel_rfl) (by kernel_rfl) (by kernel_rfl) (by kernel_rfl) (fun _ _ _ h => h) (Or.inl ⟨by rfl, ?_⟩) hR.bl ?_
      rotate_left
      · intro w' hSw; have kc := (HC4.out w' hSw).c7; go_simp; try with_reducible rfl
      try simp only [Act.put, List.setIfInBounds_toArray, List.set]
      refine Rest.take (i := 4) (oi := ⟨some 160, _, _, _, _, _⟩) (v := ?_) rfl (by kernel_rfl) (by kernel_rfl) (by kernel_rfl) (by kernel_rfl) (fun _ _ _ h => h) (Or.inl ⟨by rfl, ?_⟩) hR.bl ?_
      rotate_left
      · intro w' hSw; go_simp; try with_reducible rfl
      try simp only [Act.put, List.setIfInBounds_toArray, List.set]
      refine Rest.take (i := 5) (oi := ⟨some 161, _, _, _, _, _⟩) (v := ?_) rfl (by kernel_rfl) (by kernel_rfl) (by kernel_rfl) (by kernel_rfl) (fun _ _ _ h => h) (Or.inl ⟨by rfl, ?_⟩) hR.bl ?_
      rotate_left
      · intro w' hSw; go_simp; try with_reducible rfl
      try simp only [Act.put, List.setIfInBounds_toArray, List.set]
      refine Rest.take (i := 6) (oi := ⟨some 162, _, _, _, _, _⟩) (v := ?_) rfl (by kernel_rfl) (by kernel_rfl) (by kernel_rfl) (by kernel_rfl) (fun _ _ _ h => h) (Or.inl ⟨by rfl, ?_⟩) hR.bl ?_
      rotate_left
      · intro w' hSw; go_simp; try with_reducible rfl
      try simp only [Act.put, List.setIfInBounds_toArray, List.set]
      refine Rest.take (i := 7) (oi := ⟨some 163, _, _, _, _, _⟩) (v := ?_) rfl (by kernel_rfl) (by kernel_rfl) (by kernel_rfl) (by kernel_rfl) (fun _ _ _ h => h) (Or.inl ⟨by rfl, ?_⟩) hR.bl ?_
      rotate_left
      · intro w' hSw; have kc := (HT4.out w' hSw).t1; go_simp; try with_reducible rfl
      try simp only [Act.put, List.setIfInBounds_toArray, List.set]
      refine Rest.take (i := 8) (oi := ⟨some 164, _, _, _, _, _⟩) (v := ?_) rfl (by kernel_rfl) (by kernel_rfl) (by kernel_rfl) (by kernel_rfl) (fun _ _ _ h => h) (Or.inl ⟨by rfl, ?_⟩) hR.bl ?_
      rotate_left
      · intro w' hSw; go_simp; try with_reducible rfl
      try simp only [Act.put, List.setIfInBounds_toArray, List.set]
      refine Rest.two (i := 0) (j := 9) (by kernel_rfl) ?_ ?_
      · skip
        refine Comes.mk (o := ⟨some 156, _, _, _, _, _⟩) rfl (fun K hK => ?_)
        go_simp
        replace hR := hR.lit 98 2 0 #[] rfl (by decide)
        refine hK.out _ _ (.inr hR.bl) ?_
        clear hK K
        try simp only [List.setIfInBounds_toArray, List.set]
        generalize (w4.alloc (.cells #[] 98)) = x1 at hR ⊢
        refine Rest.two (i := 3) (j := 9) (by kernel_rfl) ?_ ?_
        · skip
          refine Comes.mk (o := ⟨some 159, _, _, _, _, _⟩) rfl (fun K hK => ?_)
          refine step_append_row rfl (.tmp 156) (.tmp 158) 31 98 rfl _ 2 40 Try.underlying31 Try.infoCustom rfl (by decide) (by decide) (.slice (some ⟨w4.heap.size, 0, none⟩) 0 0) 0 [] (by rfl) hR.head _ n7 us (by rfl) HUL.out (HNW.out.below hR.bl) HON.out (by have := HLB.out; omega) ?_
          intro v2 x2 ho2 hg2 hat2
          simp only [Nat.zero_add, List.nil_append] at ho2
          replace hR := hR.grow hg2 ho2 hat2
          obtain ⟨A2, c2, rfl⟩ := owns_slice ho2
          clear ho2 hg2 hat2
          refine hK.out _ _ (.inr hR.bl) ?_
          clear hK K
          try simp only [Act.put, List.setIfInBounds_toArray, List.set]
          refine Rest.one (i := 9) (by kernel_rfl) ?_
          refine Comes.mk (o := ⟨some 165, _, _, _, _, _⟩) rfl (fun K hK => ?_)
          go_simp
          replace hR := hR.lit 5 1 2 #[.int .u8 b1, .int .u8 b2] rfl (by decide)
          refine hK.out _ _ (.inr hR.bl) ?_
          clear hK K
          try simp only [List.setIfInBounds_toArray, List.set]
          generalize (x2.alloc (.cells #[.int .u8 b1, .int .u8 b2] 5)) = x3 at hR ⊢
          refine Rest.take (i := 10) (oi := ⟨some 166, _, _, _, _, _⟩) (v := ?_) rfl (by kernel_rfl) (by kernel_rfl) (by kernel_rfl) (by kernel_rfl) (fun _ _ _ h => h) (Or.inl ⟨by rfl, ?_⟩) hR.bl ?_
          rotate_left
          · intro w' hSw; go_simp; try with_reducible rfl
          try simp only [Act.put, List.setIfInBounds_toArray, List.set]
          refine Rest.one (i := 11) (by kernel_rfl) ?_
          refine Comes.mk (o := ⟨some 167, _, _, _, _, _⟩) rfl (fun K hK => ?_)
          go_simp
          replace hR := hR.lit 98 2 1 #[.string ⟨#[111, 100, 100]⟩, .slice (some ⟨x2.heap.size, 0, none⟩) 2 2] rfl (by decide)
          refine hK.out _ _ (.inr hR.bl) ?_
          clear hK K
          try simp only [List.setIfInBounds_toArray, List.set]
          generalize (x3.alloc (.cells #[.string ⟨#[111, 100, 100]⟩, .slice (some ⟨x2.heap.size, 0, none⟩) 2 2] 98)) = x4 at hR ⊢
          refine Rest.one (i := 12) (by kernel_rfl) ?_
          refine Comes.mk (o := ⟨some 168, _, _, _, _, _⟩) rfl (fun K hK => ?_)
          replace hR := hR.pull3
          refine step_append_row rfl (.tmp 159) (.tmp 167) 31 98 rfl _ 2 40 Try.underlying31 Try.infoCustom rfl (by decide) (by decide) (.slice A2 n7 c2) n7 us (by rfl) hR.head (.slice (some ⟨x3.heap.size, 0, none⟩) 1 1) 1 [.string ⟨#[111, 100, 100]⟩, .slice (some ⟨x2.heap.size, 0, none⟩) 2 2] (by rfl) (by rfl) (owns_news hR.tail.head) (by simp [Value.oneCell']) HLB.out ?_
          intro v5 x5 ho5 hg5 hat5
          replace hR := hR.grow hg5 ho5 hat5
          obtain ⟨A5, c5, rfl⟩ := owns_slice ho5
          clear ho5 hg5 hat5
          refine hK.out _ _ (.inr hR.bl) ?_
          clear hK K
          try simp only [Act.put, List.setIfInBounds_toArray, List.set]
          refine Rest.take (i := 13) (oi := ⟨some 169, _, _, _, _, _⟩) (v := ?_) rfl (by kernel_rfl) (by kernel_rfl) (by kernel_rfl) (by kernel_rfl) (fun _ _ _ h => h) (Or.inl ⟨by rfl, ?_⟩) hR.bl ?_
          rotate_left
          · intro w' hSw; go_simp; try with_reducible rfl
          try simp only [Act.put, List.setIfInBounds_toArray, List.set]
          refine Rest.one (i := 14) (by kernel_rfl) ?_
          refine Comes.mk (o := ⟨none, _, _, _, _, _⟩) rfl (fun K hK => ?_)
          have kx := (HC4.out _ hR.bl).c7
          have fx := (HX4.out.below hR.bl).frozen 7
          simp only at kx
          go_simp
          refine hK.out _ _ (.inl rfl) ?_
          clear hK K
          refine Rest.done (by kernel_rfl) ?_ _
          obtain ⟨m', hb⟩ := HX4.out.push7 hR HGD.out HLL.out (GoodR.one (us := [.string ⟨#[111, 100, 100]⟩, .slice (some ⟨x2.heap.size, 0, none⟩) 2 2]) ((⟨#[111, 100, 100]⟩ : ByteArray), [b1, b2]) rfl (by simp [bndC]) (fun i hi => match i, hi with | 0, _ => ⟨_, rfl, rfl⟩ | 1, _ => ⟨_, rfl, hR.bytes HX4.out.three (zs := [b1, b2]) (List.mem_cons_of_mem _ (List.mem_cons_of_mem _ (List.mem_cons_self ..))) rfl (by decide) (by decide)⟩ | _ + 2, h => absurd h (by omega)))
          have HB5 := Lib.hid hb
          clear hb hR
          go_wp2
          go_meet
          exact ⟨_, m', HB5⟩
        · skip
          refine Comes.mk (o := ⟨some 165, _, _, _, _, _⟩) rfl (fun K hK => ?_)
          go_simp
          replace hR := hR.lit 5 1 2 #[.int .u8 b1, .int .u8 b2] rfl (by decide)
          refine hK.out _ _ (.inr hR.bl) ?_
          clear hK K
          try simp only [List.setIfInBounds_toArray, List.set]
          generalize (x1.alloc (.cells #[.int .u8 b1, .int .u8 b2] 5)) = x6 at hR ⊢
          refine Rest.take (i := 10) (oi := ⟨some 166, _, _, _, _, _⟩) (v := ?_) rfl (by kernel_rfl) (by kernel_rfl) (by kernel_rfl) (by kernel_rfl) (fun _ _ _ h => h) (Or.inl ⟨by rfl, ?_⟩) hR.bl ?_
          rotate_left
          · intro w' hSw; go_simp; try with_reducible rfl
          try simp only [Act.put, List.setIfInBounds_toArray, List.set]
          refine Rest.two (i := 3) (j := 11) (by kernel_rfl) ?_ ?_
          · skip
            refine Comes.mk (o := ⟨some 159, _, _, _, _, _⟩) rfl (fun K hK => ?_)
            replace hR := hR.swap
            refine step_append_row rfl (.tmp 156) (.tmp 158) 31 98 rfl _ 2 40 Try.underlying31 Try.infoCustom rfl (by decide) (by decide) (.slice (some ⟨w4.heap.size, 0, none⟩) 0 0) 0 [] (by rfl) hR.head _ n7 us (by rfl) HUL.out (HNW.out.below hR.bl) HON.out (by have := HLB.out; omega) ?_
            intro v7 x7 ho7 hg7 hat7
            simp only [Nat.zero_add, List.nil_append] at ho7
            replace hR := hR.grow hg7 ho7 hat7
            obtain ⟨A7, c7, rfl⟩ := owns_slice ho7
            clear ho7 hg7 hat7
            refine hK.out _ _ (.inr hR.bl) ?_
            clear hK K
            try simp only [Act.put, List.setIfInBounds_toArray, List.set]
            refine Rest.one (i := 11) (by kernel_rfl) ?_
            refine Comes.mk (o := ⟨some 167, _, _, _, _, _⟩) rfl (fun K hK => ?_)
            go_simp
            replace hR := hR.lit 98 2 1 #[.string ⟨#[111, 100, 100]⟩, .slice (some ⟨x1.heap.size, 0, none⟩) 2 2] rfl (by decide)
            refine hK.out _ _ (.inr hR.bl) ?_
            clear hK K
            try simp only [List.setIfInBounds_toArray, List.set]
            generalize (x7.alloc (.cells #[.string ⟨#[111, 100, 100]⟩, .slice (some ⟨x1.heap.size, 0, none⟩) 2 2] 98)) = x8 at hR ⊢
            refine Rest.one (i := 12) (by kernel_rfl) ?_
            refine Comes.mk (o := ⟨some 168, _, _, _, _, _⟩) rfl (fun K hK => ?_)
            replace hR := hR.swap
            refine step_append_row rfl (.tmp 159) (.tmp 167) 31 98 rfl _ 2 40 Try.underlying31 Try.infoCustom rfl (by decide) (by decide) (.slice A7 n7 c7) n7 us (by rfl) hR.head (.slice (some ⟨x7.heap.size, 0, none⟩) 1 1) 1 [.string ⟨#[111, 100, 100]⟩, .slice (some ⟨x1.heap.size, 0, none⟩) 2 2] (by rfl) (by rfl) (owns_news hR.tail.head) (by simp [Value.oneCell']) HLB.out ?_
            intro v9 x9 ho9 hg9 hat9
            replace hR := hR.grow hg9 ho9 hat9
            obtain ⟨A9, c9, rfl⟩ := owns_slice ho9
            clear ho9 hg9 hat9
            refine hK.out _ _ (.inr hR.bl) ?_
            clear hK K
            try simp only [Act.put, List.setIfInBounds_toArray, List.set]
            refine Rest.take (i := 13) (oi := ⟨some 169, _, _, _, _, _⟩) (v := ?_) rfl (by kernel_rfl) (by kernel_rfl) (by kernel_rfl) (by kernel_rfl) (fun _ _ _ h => h) (Or.inl ⟨by rfl, ?_⟩) hR.bl ?_
            rotate_left
            · intro w' hSw; go_simp; try with_reducible rfl
            try simp only [Act.put, List.setIfInBounds_toArray, List.set]
            refine Rest.one (i := 14) (by kernel_rfl) ?_
            refine Comes.mk (o := ⟨none, _, _, _, _, _⟩) rfl (fun K hK => ?_)
            have kx := (HC4.out _ hR.bl).c7
            have fx := (HX4.out.below hR.bl).frozen 7
            simp only at kx
            go_simp
            refine hK.out _ _ (.inl rfl) ?_
            clear hK K
            refine Rest.done (by kernel_rfl) ?_ _
            obtain ⟨m', hb⟩ := HX4.out.push7 hR HGD.out HLL.out (GoodR.one (us := [.string ⟨#[111, 100, 100]⟩, .slice (some ⟨x1.heap.size, 0, none⟩) 2 2]) ((⟨#[111, 100, 100]⟩ : ByteArray), [b1, b2]) rfl (by simp [bndC]) (fun i hi => match i, hi with | 0, _ => ⟨_, rfl, rfl⟩ | 1, _ => ⟨_, rfl, hR.bytes HX4.out.three (zs := [b1, b2]) (List.mem_cons_of_mem _ (List.mem_cons_of_mem _ (List.mem_cons_self ..))) rfl (by decide) (by decide)⟩ | _ + 2, h => absurd h (by omega)))
            have HB5 := Lib.hid hb
            clear hb hR
            go_wp2
            go_meet
            exact ⟨_, m', HB5⟩
          · skip
            refine Comes.mk (o := ⟨some 167, _, _, _, _, _⟩) rfl (fun K hK => ?_)
            go_simp
            replace hR := hR.lit 98 2 1 #[.string ⟨#[111, 100, 100]⟩, .slice (some ⟨x1.heap.size, 0, none⟩) 2 2] rfl (by decide)
            refine hK.out _ _ (.inr hR.bl) ?_
            clear hK K
            try simp only [List.setIfInBounds_toArray, List.set]
            generalize (x6.alloc (.cells #[.string ⟨#[111, 100, 100]⟩, .slice (some ⟨x1.heap.size, 0, none⟩) 2 2] 98)) = x10 at hR ⊢
            refine Rest.one (i := 3) (by kernel_rfl) ?_
            refine Comes.mk (o := ⟨some 159, _, _, _, _, _⟩) rfl (fun K hK => ?_)
            replace hR := hR.pull3
            refine step_append_row rfl (.tmp 156) (.tmp 158) 31 98 rfl _ 2 40 Try.underlying31 Try.infoCustom rfl (by decide) (by decide) (.slice (some ⟨w4.heap.size, 0, none⟩) 0 0) 0 [] (by rfl) hR.head _ n7 us (by rfl) HUL.out (HNW.out.below hR.bl) HON.out (by have := HLB.out; omega) ?_
            intro v11 x11 ho11 hg11 hat11
            simp only [Nat.zero_add, List.nil_append] at ho11
            replace hR := hR.grow hg11 ho11 hat11
            obtain ⟨A11, c11, rfl⟩ := owns_slice ho11
            clear ho11 hg11 hat11
            refine hK.out _ _ (.inr hR.bl) ?_
            clear hK K
            try simp only [Act.put, List.setIfInBounds_toArray, List.set]
            refine Rest.one (i := 12) (by kernel_rfl) ?_
            refine Comes.mk (o := ⟨some 168, _, _, _, _, _⟩) rfl (fun K hK => ?_)
            refine step_append_row rfl (.tmp 159) (.tmp 167) 31 98 rfl _ 2 40 Try.underlying31 Try.infoCustom rfl (by decide) (by decide) (.slice A11 n7 c11) n7 us (by rfl) hR.head (.slice (some ⟨x6.heap.size, 0, none⟩) 1 1) 1 [.string ⟨#[111, 100, 100]⟩, .slice (some ⟨x1.heap.size, 0, none⟩) 2 2] (by rfl) (by rfl) (owns_news hR.tail.head) (by simp [Value.oneCell']) HLB.out ?_
            intro v12 x12 ho12 hg12 hat12
            replace hR := hR.grow hg12 ho12 hat12
            obtain ⟨A12, c12, rfl⟩ := owns_slice ho12
            clear ho12 hg12 hat12
            refine hK.out _ _ (.inr hR.bl) ?_
            clear hK K
            try simp only [Act.put, List.setIfInBounds_toArray, List.set]
            refine Rest.take (i := 13) (oi := ⟨some 169, _, _, _, _, _⟩) (v := ?_) rfl (by kernel_rfl) (by kernel_rfl) (by kernel_rfl) (by kernel_rfl) (fun _ _ _ h => h) (Or.inl ⟨by rfl, ?_⟩) hR.bl ?_
            rotate_left
            · intro w' hSw; go_simp; try with_reducible rfl
            try simp only [Act.put, List.setIfInBounds_toArray, List.set]
            refine Rest.one (i := 14) (by kernel_rfl) ?_
            refine Comes.mk (o := ⟨none, _, _, _, _, _⟩) rfl (fun K hK => ?_)
            have kx := (HC4.out _ hR.bl).c7
            have fx := (HX4.out.below hR.bl).frozen 7
            simp only at kx
            go_simp
            refine hK.out _ _ (.inl rfl) ?_
            clear hK K
            refine Rest.done (by kernel_rfl) ?_ _
            obtain ⟨m', hb⟩ := HX4.out.push7 hR HGD.out HLL.out (GoodR.one (us := [.string ⟨#[111, 100, 100]⟩, .slice (some ⟨x1.heap.size, 0, none⟩) 2 2]) ((⟨#[111, 100, 100]⟩ : ByteArray), [b1, b2]) rfl (by simp [bndC]) (fun i hi => match i, hi with | 0, _ => ⟨_, rfl, rfl⟩ | 1, _ => ⟨_, rfl, hR.bytes HX4.out.three (zs := [b1, b2]) (List.mem_cons_of_mem _ (List.mem_cons_of_mem _ (List.mem_cons_self ..))) rfl (by decide) (by decide)⟩ | _ + 2, h => absurd h (by omega)))
            have HB5 := Lib.hid hb
            clear hb hR
            go_wp2
            go_meet
            exact ⟨_, m', HB5⟩
      · skip
        refine Comes.mk (o := ⟨some 165, _, _, _, _, _⟩) rfl (fun K hK => ?_)
        go_simp
        replace hR := hR.lit 5 1 2 #[.int .u8 b1, .int .u8 b2] rfl (by decide)
        refine hK.out _ _ (.inr hR.bl) ?_
        clear hK K
        try simp only [List.setIfInBounds_toArray, List.set]
        generalize (w4.alloc (.cells #[.int .u8 b1, .int .u8 b2] 5)) = x13 at hR ⊢
        refine Rest.take (i := 10) (oi := ⟨some 166, _, _, _, _, _⟩) (v := ?_) rfl (by kernel_rfl) (by kernel_rfl) (by kernel_rfl) (by kernel_rfl) (fun _ _ _ h => h) (Or.inl ⟨by rfl, ?_⟩) hR.bl ?_
        rotate_left
        · intro w' hSw; go_simp; try with_reducible rfl
        try simp only [Act.put, List.setIfInBounds_toArray, List.set]
        refine Rest.two (i := 0) (j := 11) (by kernel_rfl) ?_ ?_
        · skip
          refine Comes.mk (o := ⟨some 156, _, _, _, _, _⟩) rfl (fun K hK => ?_)
          go_simp
          replace hR := hR.lit 98 2 0 #[] rfl (by decide)
          refine hK.out _ _ (.inr hR.bl) ?_
          clear hK K
          try simp only [List.setIfInBounds_toArray, List.set]
          generalize (x13.alloc (.cells #[] 98)) = x14 at hR ⊢
          refine Rest.two (i := 3) (j := 11) (by kernel_rfl) ?_ ?_
          · skip
            refine Comes.mk (o := ⟨some 159, _, _, _, _, _⟩) rfl (fun K hK => ?_)
            refine step_append_row rfl (.tmp 156) (.tmp 158) 31 98 rfl _ 2 40 Try.underlying31 Try.infoCustom rfl (by decide) (by decide) (.slice (some ⟨x13.heap.size, 0, none⟩) 0 0) 0 [] (by rfl) hR.head _ n7 us (by rfl) HUL.out (HNW.out.below hR.bl) HON.out (by have := HLB.out; omega) ?_
            intro v15 x15 ho15 hg15 hat15
            simp only [Nat.zero_add, List.nil_append] at ho15
            replace hR := hR.grow hg15 ho15 hat15
            obtain ⟨A15, c15, rfl⟩ := owns_slice ho15
            clear ho15 hg15 hat15
            refine hK.out _ _ (.inr hR.bl) ?_
            clear hK K
            try simp only [Act.put, List.setIfInBounds_toArray, List.set]
            refine Rest.one (i := 11) (by kernel_rfl) ?_
            refine Comes.mk (o := ⟨some 167, _, _, _, _, _⟩) rfl (fun K hK => ?_)
            go_simp
            replace hR := hR.lit 98 2 1 #[.string ⟨#[111, 100, 100]⟩, .slice (some ⟨w4.heap.size, 0, none⟩) 2 2] rfl (by decide)
            refine hK.out _ _ (.inr hR.bl) ?_
            clear hK K
            try simp only [List.setIfInBounds_toArray, List.set]
            generalize (x15.alloc (.cells #[.string ⟨#[111, 100, 100]⟩, .slice (some ⟨w4.heap.size, 0, none⟩) 2 2] 98)) = x16 at hR ⊢
            refine Rest.one (i := 12) (by kernel_rfl) ?_
            refine Comes.mk (o := ⟨some 168, _, _, _, _, _⟩) rfl (fun K hK => ?_)
            replace hR := hR.swap
            refine step_append_row rfl (.tmp 159) (.tmp 167) 31 98 rfl _ 2 40 Try.underlying31 Try.infoCustom rfl (by decide) (by decide) (.slice A15 n7 c15) n7 us (by rfl) hR.head (.slice (some ⟨x15.heap.size, 0, none⟩) 1 1) 1 [.string ⟨#[111, 100, 100]⟩, .slice (some ⟨w4.heap.size, 0, none⟩) 2 2] (by rfl) (by rfl) (owns_news hR.tail.head) (by simp [Value.oneCell']) HLB.out ?_
            intro v17 x17 ho17 hg17 hat17
            replace hR := hR.grow hg17 ho17 hat17
            obtain ⟨A17, c17, rfl⟩ := owns_slice ho17
            clear ho17 hg17 hat17
            refine hK.out _ _ (.inr hR.bl) ?_
            clear hK K
            try simp only [Act.put, List.setIfInBounds_toArray, List.set]
            refine Rest.take (i := 13) (oi := ⟨some 169, _, _, _, _, _⟩) (v := ?_) rfl (by kernel_rfl) (by kernel_rfl) (by kernel_rfl) (by kernel_rfl) (fun _ _ _ h => h) (Or.inl ⟨by rfl, ?_⟩) hR.bl ?_
            rotate_left
            · intro w' hSw; go_simp; try with_reducible rfl
            try simp only [Act.put, List.setIfInBounds_toArray, List.set]
            refine Rest.one (i := 14) (by kernel_rfl) ?_
            refine Comes.mk (o := ⟨none, _, _, _, _, _⟩) rfl (fun K hK => ?_)
            have kx := (HC4.out _ hR.bl).c7
            have fx := (HX4.out.below hR.bl).frozen 7
            simp only at kx
            go_simp
            refine hK.out _ _ (.inl rfl) ?_
            clear hK K
            refine Rest.done (by kernel_rfl) ?_ _
            obtain ⟨m', hb⟩ := HX4.out.push7 hR HGD.out HLL.out (GoodR.one (us := [.string ⟨#[111, 100, 100]⟩, .slice (some ⟨w4.heap.size, 0, none⟩) 2 2]) ((⟨#[111, 100, 100]⟩ : ByteArray), [b1, b2]) rfl (by simp [bndC]) (fun i hi => match i, hi with | 0, _ => ⟨_, rfl, rfl⟩ | 1, _ => ⟨_, rfl, hR.bytes HX4.out.three (zs := [b1, b2]) (List.mem_cons_of_mem _ (List.mem_cons_of_mem _ (List.mem_cons_self ..))) rfl (by decide) (by decide)⟩ | _ + 2, h => absurd h (by omega)))
            have HB5 := Lib.hid hb
            clear hb hR
            go_wp2
            go_meet
            exact ⟨_, m', HB5⟩
          · skip
            refine Comes.mk (o := ⟨some 167, _, _, _, _, _⟩) rfl (fun K hK => ?_)
            go_simp
            replace hR := hR.lit 98 2 1 #[.string ⟨#[111, 100, 100]⟩, .slice (some ⟨w4.heap.size, 0, none⟩) 2 2] rfl (by decide)
            refine hK.out _ _ (.inr hR.bl) ?_
            clear hK K
            try simp only [List.setIfInBounds_toArray, List.set]
            generalize (x14.alloc (.cells #[.string ⟨#[111, 100, 100]⟩, .slice (some ⟨w4.heap.size, 0, none⟩) 2 2] 98)) = x18 at hR ⊢
            refine Rest.one (i := 3) (by kernel_rfl) ?_
            refine Comes.mk (o := ⟨some 159, _, _, _, _, _⟩) rfl (fun K hK => ?_)
            replace hR := hR.swap
            refine step_append_row rfl (.tmp 156) (.tmp 158) 31 98 rfl _ 2 40 Try.underlying31 Try.infoCustom rfl (by decide) (by decide) (.slice (some ⟨x13.heap.size, 0, none⟩) 0 0) 0 [] (by rfl) hR.head _ n7 us (by rfl) HUL.out (HNW.out.below hR.bl) HON.out (by have := HLB.out; omega) ?_
            intro v19 x19 ho19 hg19 hat19
            simp only [Nat.zero_add, List.nil_append] at ho19
            replace hR := hR.grow hg19 ho19 hat19
            obtain ⟨A19, c19, rfl⟩ := owns_slice ho19
            clear ho19 hg19 hat19
            refine hK.out _ _ (.inr hR.bl) ?_
            clear hK K
            try simp only [Act.put, List.setIfInBounds_toArray, List.set]
            refine Rest.one (i := 12) (by kernel_rfl) ?_
            refine Comes.mk (o := ⟨some 168, _, _, _, _, _⟩) rfl (fun K hK => ?_)
            refine step_append_row rfl (.tmp 159) (.tmp 167) 31 98 rfl _ 2 40 Try.underlying31 Try.infoCustom rfl (by decide) (by decide) (.slice A19 n7 c19) n7 us (by rfl) hR.head (.slice (some ⟨x14.heap.size, 0, none⟩) 1 1) 1 [.string ⟨#[111, 100, 100]⟩, .slice (some ⟨w4.heap.size, 0, none⟩) 2 2] (by rfl) (by rfl) (owns_news hR.tail.head) (by simp [Value.oneCell']) HLB.out ?_
            intro v20 x20 ho20 hg20 hat20
            replace hR := hR.grow hg20 ho20 hat20
            obtain ⟨A20, c20, rfl⟩ := owns_slice ho20
            clear ho20 hg20 hat20
            refine hK.out _ _ (.inr hR.bl) ?_
            clear hK K
            try simp only [Act.put, List.setIfInBounds_toArray, List.set]
            refine Rest.take (i := 13) (oi := ⟨some 169, _, _, _, _, _⟩) (v := ?_) rfl (by kernel_rfl) (by kernel_rfl) (by kernel_rfl) (by kernel_rfl) (fun _ _ _ h => h) (Or.inl ⟨by rfl, ?_⟩) hR.bl ?_
            rotate_left
            · intro w' hSw; go_simp; try with_reducible rfl
            try simp only [Act.put, List.setIfInBounds_toArray, List.set]
            refine Rest.one (i := 14) (by kernel_rfl) ?_
            refine Comes.mk (o := ⟨none, _, _, _, _, _⟩) rfl (fun K hK => ?_)
            have kx := (HC4.out _ hR.bl).c7
            have fx := (HX4.out.below hR.bl).frozen 7
            simp only at kx
            go_simp
            refine hK.out _ _ (.inl rfl) ?_
            clear hK K
            refine Rest.done (by kernel_rfl) ?_ _
            obtain ⟨m', hb⟩ := HX4.out.push7 hR HGD.out HLL.out (GoodR.one (us := [.string ⟨#[111, 100, 100]⟩, .slice (some ⟨w4.heap.size, 0, none⟩) 2 2]) ((⟨#[111, 100, 100]⟩ : ByteArray), [b1, b2]) rfl (by simp [bndC]) (fun i hi => match i, hi with | 0, _ => ⟨_, rfl, rfl⟩ | 1, _ => ⟨_, rfl, hR.bytes HX4.out.three (zs := [b1, b2]) (List.mem_cons_of_mem _ (List.mem_cons_of_mem _ (List.mem_cons_self ..))) rfl (by decide) (by decide)⟩ | _ + 2, h => absurd h (by omega)))
            have HB5 := Lib.hid hb
            clear hb hR
            go_wp2
            go_meet
            exact ⟨_, m', HB5⟩
        · skip
          refine Comes.mk (o := ⟨some 167, _, _, _, _, _⟩) rfl (fun K hK => ?_)
          go_simp
          replace hR := hR.lit 98 2 1 #[.string ⟨#[111, 100, 100]⟩, .slice (some ⟨w4.heap.size, 0, none⟩) 2 2] rfl (by decide)
          refine hK.out _ _ (.inr hR.bl) ?_
          clear hK K
          try simp only [List.setIfInBounds_toArray, List.set]
          generalize (x13.alloc (.cells #[.string ⟨#[111, 100, 100]⟩, .slice (some ⟨w4.heap.size, 0, none⟩) 2 2] 98)) = x21 at hR ⊢
          refine Rest.one (i := 0) (by kernel_rfl) ?_
          refine Comes.mk (o := ⟨some 156, _, _, _, _, _⟩) rfl (fun K hK => ?_)
          go_simp
          replace hR := hR.lit 98 2 0 #[] rfl (by decide)
          refine hK.out _ _ (.inr hR.bl) ?_
          clear hK K
          try simp only [List.setIfInBounds_toArray, List.set]
          generalize (x21.alloc (.cells #[] 98)) = x22 at hR ⊢
          refine Rest.one (i := 3) (by kernel_rfl) ?_
          refine Comes.mk (o := ⟨some 159, _, _, _, _, _⟩) rfl (fun K hK => ?_)
          refine step_append_row rfl (.tmp 156) (.tmp 158) 31 98 rfl _ 2 40 Try.underlying31 Try.infoCustom rfl (by decide) (by decide) (.slice (some ⟨x21.heap.size, 0, none⟩) 0 0) 0 [] (by rfl) hR.head _ n7 us (by rfl) HUL.out (HNW.out.below hR.bl) HON.out (by have := HLB.out; omega) ?_
          intro v23 x23 ho23 hg23 hat23
          simp only [Nat.zero_add, List.nil_append] at ho23
          replace hR := hR.grow hg23 ho23 hat23
          obtain ⟨A23, c23, rfl⟩ := owns_slice ho23
          clear ho23 hg23 hat23
          refine hK.out _ _ (.inr hR.bl) ?_
          clear hK K
          try simp only [Act.put, List.setIfInBounds_toArray, List.set]
          refine Rest.one (i := 12) (by kernel_rfl) ?_
          refine Comes.mk (o := ⟨some 168, _, _, _, _, _⟩) rfl (fun K hK => ?_)
          refine step_append_row rfl (.tmp 159) (.tmp 167) 31 98 rfl _ 2 40 Try.underlying31 Try.infoCustom rfl (by decide) (by decide) (.slice A23 n7 c23) n7 us (by rfl) hR.head (.slice (some ⟨x13.heap.size, 0, none⟩) 1 1) 1 [.string ⟨#[111, 100, 100]⟩, .slice (some ⟨w4.heap.size, 0, none⟩) 2 2] (by rfl) (by rfl) (owns_news hR.tail.head) (by simp [Value.oneCell']) HLB.out ?_
          intro v24 x24 ho24 hg24 hat24
          replace hR := hR.grow hg24 ho24 hat24
          obtain ⟨A24, c24, rfl⟩ := owns_slice ho24
          clear ho24 hg24 hat24
          refine hK.out _ _ (.inr hR.bl) ?_
          clear hK K
          try simp only [Act.put, List.setIfInBounds_toArray, List.set]
          refine Rest.take (i := 13) (oi := ⟨some 169, _, _, _, _, _⟩) (v := ?_) rfl (by kernel_rfl) (by kernel_rfl) (by kernel_rfl) (by kernel_rfl) (fun _ _ _ h => h) (Or.inl ⟨by rfl, ?_⟩) hR.bl ?_
          rotate_left
          · intro w' hSw; go_simp; try with_reducible rfl
          try simp only [Act.put, List.setIfInBounds_toArray, List.set]
          refine Rest.one (i := 14) (by kernel_rfl) ?_
          refine Comes.mk (o := ⟨none, _, _, _, _, _⟩) rfl (fun K hK => ?_)
          have kx := (HC4.out _ hR.bl).c7
          have fx := (HX4.out.below hR.bl).frozen 7
          simp only at kx
          go_simp
          refine hK.out _ _ (.inl rfl) ?_
          clear hK K
          refine Rest.done (by kernel_rfl) ?_ _
          obtain ⟨m', hb⟩ := HX4.out.push7 hR HGD.out HLL.out (GoodR.one (us := [.string ⟨#[111, 100, 100]⟩, .slice (some ⟨w4.heap.size, 0, none⟩) 2 2]) ((⟨#[111, 100, 100]⟩ : ByteArray), [b1, b2]) rfl (by simp [bndC]) (fun i hi => match i, hi with | 0, _ => ⟨_, rfl, rfl⟩ | 1, _ => ⟨_, rfl, hR.bytes HX4.out.three (zs := [b1, b2]) (List.mem_cons_of_mem _ (List.mem_cons_of_mem _ (List.mem_cons_self ..))) rfl (by decide) (by decide)⟩ | _ + 2, h => absurd h (by omega)))
          have HB5 := Lib.hid hb
          clear hb hR
          go_wp2
          go_meet
          exact ⟨_, m', HB5⟩
    · go_upto_region 29 with (fail)
      obtain ⟨us, hnw, hgd, hon, hlb⟩ := HBX.out.news2
      simp only at hnw
      rw [HN2.out] at hnw hgd hlb
      have HNW := Lib.hid hnw
      have HGD := Lib.hid hgd
      have HUL := Lib.hid hgd.1
      have HON := Lib.hid hon
      clear hnw hon
      obtain ⟨xf, hbf, hxf⟩ := hgd.2 q hq
      obtain ⟨u0, k0', rfl⟩ := hxf 0 (by decide)
      obtain ⟨u1, k1', h1'⟩ := hxf 1 (by decide)
      obtain ⟨u2, k2', h2'⟩ := hxf 2 (by decide)
      have kz := (HC.out _ ((Rows.nil (Below.refl w3.heap.size w3)).lit 38 3 0 #[] rfl (by decide)).bl).c2
      simp only at kz
      have hidx : q * 3 + 2 < nf * 3 := by omega
      have HIX := Lib.hid hidx
      clear hidx hxf hgd
      have HK0 := Lib.hid k0'
      have HK1 := Lib.hid k1'
      have HK2 := Lib.hid k2'
      have H1 := Lib.hid h1'
      have H2 := Lib.hid h2'
      have HBF := Lib.hid hbf
      clear k0' k1' k2' h1' h2' hbf
      go_upto_region 30 with (at_builtin; refine wpList_append_row rfl (.tmp 188) (.tmp 190) 26 38 rfl _ 3 56 Try.underlying26 Try.infoFunc rfl (by decide) (by decide) (.slice (some ⟨w3.heap.size, 0, none⟩) 0 0) 0 [] (by rfl) ((Rows.nil (Below.refl w3.heap.size w3)).lit 38 3 0 #[] rfl (by decide)).head _ nf us (by rfl) HUL.out (HNW.out.below ((Rows.nil (Below.refl w3.heap.size w3)).lit 38 3 0 #[] rfl (by decide)).bl) HON.out (by omega) ?_; intro v1 x1 ho1 hg1 hat1; simp only [Nat.zero_add, List.nil_append] at ho1; have hF := ((Rows.nil (Below.refl w3.heap.size w3)).lit 38 3 0 #[] rfl (by decide)).grow hg1 ho1 hat1; obtain ⟨B1, cF, rfl⟩ := owns_slice ho1; obtain ⟨gF, rfl⟩ := owns_block ho1 hf; have HF := Lib.hid hF; clear ho1 hg1 hat1 hF kz)
      have HFB := Lib.hid HF.out.bl
      have htt := HT.out _ HFB.out
      have hcc := HC.out _ HFB.out
      obtain ⟨t0, t1, t2, t3, t4, t5, t6, t7, t8⟩ := htt
      obtain ⟨k0, k1, k2, k3, k4, k5, k6, k7⟩ := hcc
      simp only at k0 k1 k2 k3 k4 k5 k6 k7
      have h1 := H1.out
      obtain ⟨AL, cL, hu1, hlm, _⟩ := IntsK.form h1
      subst hu1
      have HNL := Lib.hid (IntsK.news h1)
      have hll := HBF.out.1
      obtain ⟨nl1, hnl1⟩ : ∃ n, xf.loc.length = n := ⟨_, rfl⟩
      rw [hnl1] at HNL hll HK1
      have HL1 := Lib.hid hnl1
      have HLM : Hid (nl1 ≤ 1000 + k) := Lib.hid hll
      clear h1 H1 hnl1 hll hlm
      refine Rest.start (X := 20) (S := fun w' => Below x1.drew.heap.size x1.drew w') (by kernel_rfl) ?_
      have HF5 := Lib.hid (HF.out.below (below_drewN (Below.refl _ _) 1))
      change Hid (Rows _ x1.drew _) at HF5
      have hF3 : Below w3.heap.size w3 x1.drew := HF5.out.bl
      have HF3 := Lib.hid hF3
      clear hF3
      have HT5 := Lib.hid (fun wz (hb : Below x1.drew.heap.size x1.drew wz) => HT.out wz (HF3.out.trans (hb.mono HF3.out.size)))
      have HC5 := Lib.hid (fun wz (hb : Below x1.drew.heap.size x1.drew wz) => HC.out wz (HF3.out.trans (hb.mono HF3.out.size)))
      have hR := Rows.nil (Below.refl x1.drew.heap.size x1.drew)
      have HKL1 : Hid (x1.drew.cell? ⟨gF, q * 3 + 1, none⟩ = some (.slice AL nl1 cL)) := Lib.hid ((HF.out.head.cellAt (q * 3 + 1) (Nat.lt_of_le_of_lt (show q * 3 + 1 ≤ q * 3 + 2 by omega) HIX.out)).trans HK1.out)
      clear HF HT HC HFB k0 k1 k2 k3 k4 k5 k6 k7 t0 t1 t2 t3 t4 t5 t6 t7 t8
      generalize x1.drew = w5 at *
      have HGL : Hid (gF < w5.heap.size) := Lib.hid (HF5.out.lt (List.mem_cons_self ..) rfl)
      have HGF : Hid (w3.heap.size ≤ gF) := Lib.hid (HF5.out.nw _ (List.mem_cons_self ..) gF rfl)
      show Rest _ _ _ _ _ _ 21 #[false, false, false, false, false, false, false, false, false, false, false, false, false, false, false, false, false, false, false, false, false] _ _
      refine Rest.take (i := 0) (oi := ⟨some 192, _, _, _, _, _⟩) (v := ?_) rfl (by kernel_rfl) (by kernel_rfl) (by kernel_rfl) (by kernel_rfl) (fun _ _ _ h => h) (Or.inl ⟨by rfl, ?_⟩) hR.bl ?_
      rotate_left
      · intro w' hSw; go_simp; try with_reducible rfl
      try simp only [Act.put, List.setIfInBounds_toArray, List.set]
      refine Rest.take (i := 1) (oi := ⟨some 193, _, _, _, _, _⟩) (v := ?_) rfl (by kernel_rfl) (by kernel_rfl) (by kernel_rfl) (by kernel_rfl) (fun _ _ _ h => h) (Or.inl ⟨by rfl, ?_⟩) hR.bl ?_
      rotate_left
      · intro w' hSw; go_simp; try with_reducible rfl
      try simp only [Act.put, List.setIfInBounds_toArray, List.set]
      refine Rest.take (i := 3) (oi := ⟨some 195, _, _, _, _, _⟩) (v := ?_) rfl (by kernel_rfl) (by kernel_rfl) (by kernel_rfl) (by kernel_rfl) (fun _ _ _ h => h) (Or.inl ⟨by rfl, ?_⟩) hR.bl ?_
      rotate_left
      · intro w' hSw; go_simp; try with_reducible rfl
      try simp only [Act.put, List.setIfInBounds_toArray, List.set]
      refine Rest.take (i := 4) (oi := ⟨some 196, _, _, _, _, _⟩) (v := ?_) rfl (by kernel_rfl) (by kernel_rfl) (by kernel_rfl) (by kernel_rfl) (fun _ _ _ h => h) (Or.inl ⟨by rfl, ?_⟩) hR.bl ?_
      rotate_left
      · intro w' hSw; go_simp; try with_reducible rfl
      try simp only [Act.put, List.setIfInBounds_toArray, List.set]
      refine Rest.take (i := 5) (oi := ⟨some 197, _, _, _, _, _⟩) (v := ?_) rfl (by kernel_rfl) (by kernel_rfl) (by kernel_rfl) (by kernel_rfl) (fun _ _ _ h => h) (Or.inl ⟨by rfl, ?_⟩) hR.bl ?_
      rotate_left
      · intro w' hSw; go_simp; try with_reducible rfl
      try simp only [Act.put, List.setIfInBounds_toArray, List.set]
      refine Rest.take (i := 6) (oi := ⟨some 198, _, _, _, _, _⟩) (v := ?_) rfl (by kernel_rfl) (by kernel_rfl) (by kernel_rfl) (by kernel_rfl) (fun _ _ _ h => h) (Or.inl ⟨by rfl, ?_⟩) hR.bl ?_
      rotate_left
      · intro w' hSw; go_simp; try with_reducible rfl
      try simp only [Act.put, List.setIfInBounds_toArray, List.set]
      refine Rest.take (i := 7) (oi := ⟨some 199, _, _, _, _, _⟩) (v := ?_) rfl (by kernel_rfl) (by kernel_rfl) (by kernel_rfl) (by kernel_rfl) (fun _ _ _ h => h) (Or.inl ⟨by rfl, ?_⟩) hR.bl ?_
      rotate_left
      · intro w' hSw; have kc := (hSw.cell (p := ⟨gF, q * 3 + 1, none⟩) HGL.out).trans HKL1.out; go_simp; try with_reducible rfl
      try simp only [Act.put, List.setIfInBounds_toArray, List.set]
      refine Rest.take (i := 9) (oi := ⟨some 201, _, _, _, _, _⟩) (v := ?_) rfl (by kernel_rfl) (by kernel_rfl) (by kernel_rfl) (by kernel_rfl) (fun _ _ _ h => h) (Or.inl ⟨by rfl, ?_⟩) hR.bl ?_
      rotate_left
      · intro w' hSw; go_simp; try with_reducible rfl
      try simp only [Act.put, List.setIfInBounds_toArray, List.set]
      refine Rest.take (i := 11) (oi := ⟨some 203, _, _, _, _, _⟩) (v := ?_) rfl (by kernel_rfl) (by kernel_rfl) (by kernel_rfl) (by kernel_rfl) (fun _ _ _ h => h) (Or.inl ⟨by rfl, ?_⟩) hR.bl ?_
      rotate_left
      · intro w' hSw; go_simp; try with_reducible rfl
      try simp only [Act.put, List.setIfInBounds_toArray, List.set]
      refine Rest.take (i := 12) (oi := ⟨some 204, _, _, _, _, _⟩) (v := ?_) rfl (by kernel_rfl) (by kernel_rfl) (by kernel_rfl) (by kernel_rfl) (fun _ _ _ h => h) (Or.inl ⟨by rfl, ?_⟩) hR.bl ?_
      rotate_left
      · intro w' hSw; have kc := (HT5.out w' hSw).t1; go_simp; try with_reducible rfl
      try simp only [Act.put, List.setIfInBounds_toArray, List.set]
      refine Rest.two (i := 2) (j := 10) (by kernel_rfl) ?_ ?_
      · skip
        refine Comes.mk (o := ⟨some 194, _, _, _, _, _⟩) rfl (fun K hK => ?_)
        go_simp
        replace hR := hR.lit 3 1 0 #[] rfl (by decide)
        refine hK.out _ _ (.inr hR.bl) ?_
        clear hK K
        try simp only [List.setIfInBounds_toArray, List.set]
        generalize (w5.alloc (.cells #[] 3)) = x1 at hR ⊢
        refine Rest.two (i := 8) (j := 10) (by kernel_rfl) ?_ ?_
        · skip
          refine Comes.mk (o := ⟨some 200, _, _, _, _, _⟩) rfl (fun K hK => ?_)
          refine step_append_row rfl (.tmp 194) (.tmp 199) 22 3 rfl _ 1 8 Try.underlying22 Try.infoInt rfl (by decide) (by decide) (.slice (some ⟨w5.heap.size, 0, none⟩) 0 0) 0 [] (by rfl) hR.head _ nl1 (xf.loc.map (Value.int .i64)) (by rfl) (by rw [List.length_map, HL1.out, Nat.mul_one]) (HNL.out.below (HF3.out.trans (hR.bl.mono HF3.out.size))) (by simp [Value.oneCell']) (by have := HLM.out; omega) ?_
          intro v2 x2 ho2 hg2 hat2
          simp only [Nat.zero_add, List.nil_append] at ho2
          replace hR := hR.grow hg2 ho2 hat2
          obtain ⟨A2, c2, rfl⟩ := owns_slice ho2
          clear ho2 hg2 hat2
          refine hK.out _ _ (.inr hR.bl) ?_
          clear hK K
          try simp only [Act.put, List.setIfInBounds_toArray, List.set]
          refine Rest.two (i := 10) (j := 13) (by kernel_rfl) ?_ ?_
          · skip
            refine Comes.mk (o := ⟨some 202, _, _, _, _, _⟩) rfl (fun K hK => ?_)
            go_simp
            replace hR := hR.lit 3 1 3 #[.int .i64 127, .int .i64 124, .int .i64 to_] rfl (by decide)
            refine hK.out _ _ (.inr hR.bl) ?_
            clear hK K
            try simp only [List.setIfInBounds_toArray, List.set]
            generalize (x2.alloc (.cells #[.int .i64 127, .int .i64 124, .int .i64 to_] 3)) = x3 at hR ⊢
            refine Rest.one (i := 13) (by kernel_rfl) ?_
            refine Comes.mk (o := ⟨some 205, _, _, _, _, _⟩) rfl (fun K hK => ?_)
            have kc := (HT5.out _ hR.bl).t1
            go_simp
            refine (at_any pos 3 (by decide) (by decide) _).mono ?_
            rintro e w' ⟨⟨r, hr, rfl⟩, rfl⟩
            clear kc
            obtain ⟨z3, hz3⟩ := lit3_at to_ r hr
            have HZ3 := Lib.hid hz3
            clear hz3
            have hr5 : (r : Int) < 3 := by omega
            have hr6 : (0 : Int) ≤ (r : Int) := by omega
            go_wp2_with fail
            refine hK.out _ _ (.inr hR.bl) ?_
            clear hK K
            try simp only [List.setIfInBounds_toArray, List.set]
            refine Rest.take (i := 14) (oi := ⟨some 206, _, _, _, _, _⟩) (v := ?_) rfl (by kernel_rfl) (by kernel_rfl) (by kernel_rfl) (by kernel_rfl) (fun _ _ _ h => h) (Or.inl ⟨by rfl, ?_⟩) hR.bl ?_
            rotate_left
            · intro w' hSw; go_simp; try with_reducible rfl
            try simp only [Act.put, List.setIfInBounds_toArray, List.set]
            refine Rest.one (i := 15) (by kernel_rfl) ?_
            refine Comes.mk (o := ⟨some 207, _, _, _, _, _⟩) rfl (fun K hK => ?_)
            have kp := (hR.ow _ (List.mem_cons_self ..)).cells (c := 3) (by rfl) rfl r _ HZ3.out
            go_simp
            clear kp
            refine hK.out _ _ (.inr hR.bl) ?_
            clear hK K
            try simp only [List.setIfInBounds_toArray, List.set]
            refine Rest.one (i := 16) (by kernel_rfl) ?_
            refine Comes.mk (o := ⟨some 208, _, _, _, _, _⟩) rfl (fun K hK => ?_)
            go_simp
            replace hR := hR.lit 3 1 1 #[.int .i64 z3] rfl (by decide)
            refine hK.out _ _ (.inr hR.bl) ?_
            clear hK K
            try simp only [List.setIfInBounds_toArray, List.set]
            generalize (x3.alloc (.cells #[.int .i64 z3] 3)) = x4 at hR ⊢
            refine Rest.one (i := 17) (by kernel_rfl) ?_
            refine Comes.mk (o := ⟨some 209, _, _, _, _, _⟩) rfl (fun K hK => ?_)
            replace hR := hR.pull3
            refine step_append_row rfl (.tmp 200) (.tmp 208) 22 3 rfl _ 1 8 Try.underlying22 Try.infoInt rfl (by decide) (by decide) (.slice A2 nl1 c2) nl1 (xf.loc.map (Value.int .i64)) (by rfl) hR.head (.slice (some ⟨x3.heap.size, 0, none⟩) 1 1) 1 [.int .i64 z3] (by rfl) (by rfl) (owns_news hR.tail.head) (by simp [Value.oneCell']) (by have := HLM.out; omega) ?_
            intro v5 x5 ho5 hg5 hat5
            replace hR := hR.grow hg5 ho5 hat5
            obtain ⟨A5, c5, rfl⟩ := owns_slice ho5
            clear ho5 hg5 hat5
            refine hK.out _ _ (.inr hR.bl) ?_
            clear hK K
            try simp only [Act.put, List.setIfInBounds_toArray, List.set]
            refine Rest.one (i := 18) (by kernel_rfl) ?_
            refine Comes.mk (o := ⟨some 210, _, _, _, _, _⟩) rfl (fun K hK => ?_)
            go_simp
            refine hK.out _ _ (.inr hR.bl) ?_
            clear hK K
            try simp only [List.setIfInBounds_toArray, List.set]
            refine Rest.take (i := 19) (oi := ⟨some 211, _, _, _, _, _⟩) (v := ?_) rfl (by kernel_rfl) (by kernel_rfl) (by kernel_rfl) (by kernel_rfl) (fun _ _ _ h => h) (Or.inl ⟨by rfl, ?_⟩) hR.bl ?_
            rotate_left
            · intro w' hSw; go_simp; try with_reducible rfl
            try simp only [Act.put, List.setIfInBounds_toArray, List.set]
            refine Rest.one (i := 20) (by kernel_rfl) ?_
            refine Comes.mk (o := ⟨none, _, _, _, _, _⟩) rfl (fun K hK => ?_)
            have kx := (hR.bl.cell (p := ⟨gF, q * 3 + 1, none⟩) HGL.out).trans HKL1.out
            have fx := (HF5.out.below hR.bl).head.frozenAt (q * 3 + 1)
            go_simp
            refine hK.out _ _ (.inl rfl) ?_
            clear hK K
            refine Rest.done (by kernel_rfl) ?_ _
            clear kx fx
            rw [show (xf.loc.map (Value.int .i64)) ++ [.int .i64 z3] = (xf.loc ++ [z3]).map (Value.int .i64) by simp] at hR
            have hin := hR.intsK (K := fun g => KB K w x5 g ∧ g ≠ gF) (fun g h1 h2 => ⟨⟨h2, .inr (by have := HBX.out.three; have := HF3.out.size; omega)⟩, by have := HGL.out; omega⟩) (List.mem_cons_self ..) (by rw [List.length_append, HL1.out]; rfl) (by have := HLM.out; unfold maxLen; omega)
            obtain ⟨m', hb⟩ := HBX.out.funs (i0 := 1) (q := q) (u0 := (.slice A5 (nl1 + 1) c5)) (HF5.out.below hR.bl) HGD.out HN2.out hq (by decide) (fun y => { y with loc := xf.loc ++ [z3] }) (fun y hy => ⟨⟨by show (xf.loc ++ [z3]).length ≤ _; rw [List.length_append, HL1.out]; have := HLM.out; simp only [List.length_singleton]; omega, by have := hy.2; show y.code.length ≤ _; omega⟩, fun K wz i u _ hne h => match i, hne, h with | 0, _, h => h | 1, hne, _ => absurd rfl hne | _ + 2, _, h => h⟩) (fun y => hin)
            have HB5 := Lib.hid hb
            clear hb hin
            have hne8 := box_far HBX.out.three HGF.out
            have k2' := (HC5.out _ hR.bl).c2
            simp only at k2'
            have kx := far_cell (u := (.slice A5 (nl1 + 1) c5)) (i := q * 3 + 1) k2' hne8
            have fx := far_frozen (u := (.slice A5 (nl1 + 1) c5)) (i := q * 3 + 1) ((HBX.out.below (HF3.out.trans (hR.bl.mono HF3.out.size))).frozen 2) hne8
            clear hne8 k2' hR
            go_wp2
            go_meet
            exact ⟨_, m', HB5⟩
          · skip
            refine Comes.mk (o := ⟨some 205, _, _, _, _, _⟩) rfl (fun K hK => ?_)
            have kc := (HT5.out _ hR.bl).t1
            go_simp
            refine (at_any pos 3 (by decide) (by decide) _).mono ?_
            rintro e w' ⟨⟨r, hr, rfl⟩, rfl⟩
            clear kc
            obtain ⟨z3, hz3⟩ := lit3_at to_ r hr
            have HZ3 := Lib.hid hz3
            clear hz3
            have hr5 : (r : Int) < 3 := by omega
            have hr6 : (0 : Int) ≤ (r : Int) := by omega
            go_wp2_with fail
            refine hK.out _ _ (.inr hR.bl) ?_
            clear hK K
            try simp only [List.setIfInBounds_toArray, List.set]
            refine Rest.one (i := 10) (by kernel_rfl) ?_
            refine Comes.mk (o := ⟨some 202, _, _, _, _, _⟩) rfl (fun K hK => ?_)
            go_simp
            replace hR := hR.lit 3 1 3 #[.int .i64 127, .int .i64 124, .int .i64 to_] rfl (by decide)
            refine hK.out _ _ (.inr hR.bl) ?_
            clear hK K
            try simp only [List.setIfInBounds_toArray, List.set]
            generalize (x2.alloc (.cells #[.int .i64 127, .int .i64 124, .int .i64 to_] 3)) = x6 at hR ⊢
            refine Rest.take (i := 14) (oi := ⟨some 206, _, _, _, _, _⟩) (v := ?_) rfl (by kernel_rfl) (by kernel_rfl) (by kernel_rfl) (by kernel_rfl) (fun _ _ _ h => h) (Or.inl ⟨by rfl, ?_⟩) hR.bl ?_
            rotate_left
            · intro w' hSw; go_simp; try with_reducible rfl
            try simp only [Act.put, List.setIfInBounds_toArray, List.set]
            refine Rest.one (i := 15) (by kernel_rfl) ?_
            refine Comes.mk (o := ⟨some 207, _, _, _, _, _⟩) rfl (fun K hK => ?_)
            have kp := (hR.ow _ (List.mem_cons_self ..)).cells (c := 3) (by rfl) rfl r _ HZ3.out
            go_simp
            clear kp
            refine hK.out _ _ (.inr hR.bl) ?_
            clear hK K
            try simp only [List.setIfInBounds_toArray, List.set]
            refine Rest.one (i := 16) (by kernel_rfl) ?_
            refine Comes.mk (o := ⟨some 208, _, _, _, _, _⟩) rfl (fun K hK => ?_)
            go_simp
            replace hR := hR.lit 3 1 1 #[.int .i64 z3] rfl (by decide)
            refine hK.out _ _ (.inr hR.bl) ?_
            clear hK K
            try simp only [List.setIfInBounds_toArray, List.set]
            generalize (x6.alloc (.cells #[.int .i64 z3] 3)) = x7 at hR ⊢
            refine Rest.one (i := 17) (by kernel_rfl) ?_
            refine Comes.mk (o := ⟨some 209, _, _, _, _, _⟩) rfl (fun K hK => ?_)
            replace hR := hR.pull3
            refine step_append_row rfl (.tmp 200) (.tmp 208) 22 3 rfl _ 1 8 Try.underlying22 Try.infoInt rfl (by decide) (by decide) (.slice A2 nl1 c2) nl1 (xf.loc.map (Value.int .i64)) (by rfl) hR.head (.slice (some ⟨x6.heap.size, 0, none⟩) 1 1) 1 [.int .i64 z3] (by rfl) (by rfl) (owns_news hR.tail.head) (by simp [Value.oneCell']) (by have := HLM.out; omega) ?_
            intro v8 x8 ho8 hg8 hat8
            replace hR := hR.grow hg8 ho8 hat8
            obtain ⟨A8, c8, rfl⟩ := owns_slice ho8
            clear ho8 hg8 hat8
            refine hK.out _ _ (.inr hR.bl) ?_
            clear hK K
            try simp only [Act.put, List.setIfInBounds_toArray, List.set]
            refine Rest.one (i := 18) (by kernel_rfl) ?_
            refine Comes.mk (o := ⟨some 210, _, _, _, _, _⟩) rfl (fun K hK => ?_)
            go_simp
            refine hK.out _ _ (.inr hR.bl) ?_
            clear hK K
            try simp only [List.setIfInBounds_toArray, List.set]
            refine Rest.take (i := 19) (oi := ⟨some 211, _, _, _, _, _⟩) (v := ?_) rfl (by kernel_rfl) (by kernel_rfl) (by kernel_rfl) (by kernel_rfl) (fun _ _ _ h => h) (Or.inl ⟨by rfl, ?_⟩) hR.bl ?_
            rotate_left
            · intro w' hSw; go_simp; try with_reducible rfl
            try simp only [Act.put, List.setIfInBounds_toArray, List.set]
            refine Rest.one (i := 20) (by kernel_rfl) ?_
            refine Comes.mk (o := ⟨none, _, _, _, _, _⟩) rfl (fun K hK => ?_)
            have kx := (hR.bl.cell (p := ⟨gF, q * 3 + 1, none⟩) HGL.out).trans HKL1.out
            have fx := (HF5.out.below hR.bl).head.frozenAt (q * 3 + 1)
            go_simp
            refine hK.out _ _ (.inl rfl) ?_
            clear hK K
            refine Rest.done (by kernel_rfl) ?_ _
            clear kx fx
            rw [show (xf.loc.map (Value.int .i64)) ++ [.int .i64 z3] = (xf.loc ++ [z3]).map (Value.int .i64) by simp] at hR
            have hin := hR.intsK (K := fun g => KB K w x8 g ∧ g ≠ gF) (fun g h1 h2 => ⟨⟨h2, .inr (by have := HBX.out.three; have := HF3.out.size; omega)⟩, by have := HGL.out; omega⟩) (List.mem_cons_self ..) (by rw [List.length_append, HL1.out]; rfl) (by have := HLM.out; unfold maxLen; omega)
            obtain ⟨m', hb⟩ := HBX.out.funs (i0 := 1) (q := q) (u0 := (.slice A8 (nl1 + 1) c8)) (HF5.out.below hR.bl) HGD.out HN2.out hq (by decide) (fun y => { y with loc := xf.loc ++ [z3] }) (fun y hy => ⟨⟨by show (xf.loc ++ [z3]).length ≤ _; rw [List.length_append, HL1.out]; have := HLM.out; simp only [List.length_singleton]; omega, by have := hy.2; show y.code.length ≤ _; omega⟩, fun K wz i u _ hne h => match i, hne, h with | 0, _, h => h | 1, hne, _ => absurd rfl hne | _ + 2, _, h => h⟩) (fun y => hin)
            have HB5 := Lib.hid hb
            clear hb hin
            have hne8 := box_far HBX.out.three HGF.out
            have k2' := (HC5.out _ hR.bl).c2
            simp only at k2'
            have kx := far_cell (u := (.slice A8 (nl1 + 1) c8)) (i := q * 3 + 1) k2' hne8
            have fx := far_frozen (u := (.slice A8 (nl1 + 1) c8)) (i := q * 3 + 1) ((HBX.out.below (HF3.out.trans (hR.bl.mono HF3.out.size))).frozen 2) hne8
            clear hne8 k2' hR
            go_wp2
            go_meet
            exact ⟨_, m', HB5⟩
        · skip
          refine Comes.mk (o := ⟨some 202, _, _, _, _, _⟩) rfl (fun K hK => ?_)
          go_simp
          replace hR := hR.lit 3 1 3 #[.int .i64 127, .int .i64 124, .int .i64 to_] rfl (by decide)
          refine hK.out _ _ (.inr hR.bl) ?_
          clear hK K
          try simp only [List.setIfInBounds_toArray, List.set]
          generalize (x1.alloc (.cells #[.int .i64 127, .int .i64 124, .int .i64 to_] 3)) = x9 at hR ⊢
          refine Rest.one (i := 8) (by kernel_rfl) ?_
          refine Comes.mk (o := ⟨some 200, _, _, _, _, _⟩) rfl (fun K hK => ?_)
          replace hR := hR.swap
          refine step_append_row rfl (.tmp 194) (.tmp 199) 22 3 rfl _ 1 8 Try.underlying22 Try.infoInt rfl (by decide) (by decide) (.slice (some ⟨w5.heap.size, 0, none⟩) 0 0) 0 [] (by rfl) hR.head _ nl1 (xf.loc.map (Value.int .i64)) (by rfl) (by rw [List.length_map, HL1.out, Nat.mul_one]) (HNL.out.below (HF3.out.trans (hR.bl.mono HF3.out.size))) (by simp [Value.oneCell']) (by have := HLM.out; omega) ?_
          intro v10 x10 ho10 hg10 hat10
          simp only [Nat.zero_add, List.nil_append] at ho10
          replace hR := hR.grow hg10 ho10 hat10
          obtain ⟨A10, c10, rfl⟩ := owns_slice ho10
          clear ho10 hg10 hat10
          refine hK.out _ _ (.inr hR.bl) ?_
          clear hK K
          try simp only [Act.put, List.setIfInBounds_toArray, List.set]
          refine Rest.one (i := 13) (by kernel_rfl) ?_
          refine Comes.mk (o := ⟨some 205, _, _, _, _, _⟩) rfl (fun K hK => ?_)
          have kc := (HT5.out _ hR.bl).t1
          go_simp
          refine (at_any pos 3 (by decide) (by decide) _).mono ?_
          rintro e w' ⟨⟨r, hr, rfl⟩, rfl⟩
          clear kc
          obtain ⟨z3, hz3⟩ := lit3_at to_ r hr
          have HZ3 := Lib.hid hz3
          clear hz3
          have hr5 : (r : Int) < 3 := by omega
          have hr6 : (0 : Int) ≤ (r : Int) := by omega
          go_wp2_with fail
          refine hK.out _ _ (.inr hR.bl) ?_
          clear hK K
          try simp only [List.setIfInBounds_toArray, List.set]
          refine Rest.take (i := 14) (oi := ⟨some 206, _, _, _, _, _⟩) (v := ?_) rfl (by kernel_rfl) (by kernel_rfl) (by kernel_rfl) (by kernel_rfl) (fun _ _ _ h => h) (Or.inl ⟨by rfl, ?_⟩) hR.bl ?_
          rotate_left
          · intro w' hSw; go_simp; try with_reducible rfl
          try simp only [Act.put, List.setIfInBounds_toArray, List.set]
          refine Rest.one (i := 15) (by kernel_rfl) ?_
          refine Comes.mk (o := ⟨some 207, _, _, _, _, _⟩) rfl (fun K hK => ?_)
          have kp := (hR.ow _ (List.mem_cons_of_mem _ (List.mem_cons_self ..))).cells (c := 3) (by rfl) rfl r _ HZ3.out
          go_simp
          clear kp
          refine hK.out _ _ (.inr hR.bl) ?_
          clear hK K
          try simp only [List.setIfInBounds_toArray, List.set]
          refine Rest.one (i := 16) (by kernel_rfl) ?_
          refine Comes.mk (o := ⟨some 208, _, _, _, _, _⟩) rfl (fun K hK => ?_)
          go_simp
          replace hR := hR.lit 3 1 1 #[.int .i64 z3] rfl (by decide)
          refine hK.out _ _ (.inr hR.bl) ?_
          clear hK K
          try simp only [List.setIfInBounds_toArray, List.set]
          generalize (x10.alloc (.cells #[.int .i64 z3] 3)) = x11 at hR ⊢
          refine Rest.one (i := 17) (by kernel_rfl) ?_
          refine Comes.mk (o := ⟨some 209, _, _, _, _, _⟩) rfl (fun K hK => ?_)
          replace hR := hR.swap
          refine step_append_row rfl (.tmp 200) (.tmp 208) 22 3 rfl _ 1 8 Try.underlying22 Try.infoInt rfl (by decide) (by decide) (.slice A10 nl1 c10) nl1 (xf.loc.map (Value.int .i64)) (by rfl) hR.head (.slice (some ⟨x10.heap.size, 0, none⟩) 1 1) 1 [.int .i64 z3] (by rfl) (by rfl) (owns_news hR.tail.head) (by simp [Value.oneCell']) (by have := HLM.out; omega) ?_
          intro v12 x12 ho12 hg12 hat12
          replace hR := hR.grow hg12 ho12 hat12
          obtain ⟨A12, c12, rfl⟩ := owns_slice ho12
          clear ho12 hg12 hat12
          refine hK.out _ _ (.inr hR.bl) ?_
          clear hK K
          try simp only [Act.put, List.setIfInBounds_toArray, List.set]
          refine Rest.one (i := 18) (by kernel_rfl) ?_
          refine Comes.mk (o := ⟨some 210, _, _, _, _, _⟩) rfl (fun K hK => ?_)
          go_simp
          refine hK.out _ _ (.inr hR.bl) ?_
          clear hK K
          try simp only [List.setIfInBounds_toArray, List.set]
          refine Rest.take (i := 19) (oi := ⟨some 211, _, _, _, _, _⟩) (v := ?_) rfl (by kernel_rfl) (by kernel_rfl) (by kernel_rfl) (by kernel_rfl) (fun _ _ _ h => h) (Or.inl ⟨by rfl, ?_⟩) hR.bl ?_
          rotate_left
          · intro w' hSw; go_simp; try with_reducible rfl
          try simp only [Act.put, List.setIfInBounds_toArray, List.set]
          refine Rest.one (i := 20) (by kernel_rfl) ?_
          refine Comes.mk (o := ⟨none, _, _, _, _, _⟩) rfl (fun K hK => ?_)
          have kx := (hR.bl.cell (p := ⟨gF, q * 3 + 1, none⟩) HGL.out).trans HKL1.out
          have fx := (HF5.out.below hR.bl).head.frozenAt (q * 3 + 1)
          go_simp
          refine hK.out _ _ (.inl rfl) ?_
          clear hK K
          refine Rest.done (by kernel_rfl) ?_ _
          clear kx fx
          rw [show (xf.loc.map (Value.int .i64)) ++ [.int .i64 z3] = (xf.loc ++ [z3]).map (Value.int .i64) by simp] at hR
          have hin := hR.intsK (K := fun g => KB K w x12 g ∧ g ≠ gF) (fun g h1 h2 => ⟨⟨h2, .inr (by have := HBX.out.three; have := HF3.out.size; omega)⟩, by have := HGL.out; omega⟩) (List.mem_cons_self ..) (by rw [List.length_append, HL1.out]; rfl) (by have := HLM.out; unfold maxLen; omega)
          obtain ⟨m', hb⟩ := HBX.out.funs (i0 := 1) (q := q) (u0 := (.slice A12 (nl1 + 1) c12)) (HF5.out.below hR.bl) HGD.out HN2.out hq (by decide) (fun y => { y with loc := xf.loc ++ [z3] }) (fun y hy => ⟨⟨by show (xf.loc ++ [z3]).length ≤ _; rw [List.length_append, HL1.out]; have := HLM.out; simp only [List.length_singleton]; omega, by have := hy.2; show y.code.length ≤ _; omega⟩, fun K wz i u _ hne h => match i, hne, h with | 0, _, h => h | 1, hne, _ => absurd rfl hne | _ + 2, _, h => h⟩) (fun y => hin)
          have HB5 := Lib.hid hb
          clear hb hin
          have hne8 := box_far HBX.out.three HGF.out
          have k2' := (HC5.out _ hR.bl).c2
          simp only at k2'
          have kx := far_cell (u := (.slice A12 (nl1 + 1) c12)) (i := q * 3 + 1) k2' hne8
          have fx := far_frozen (u := (.slice A12 (nl1 + 1) c12)) (i := q * 3 + 1) ((HBX.out.below (HF3.out.trans (hR.bl.mono HF3.out.size))).frozen 2) hne8
          clear hne8 k2' hR
          go_wp2
          go_meet
          exact ⟨_, m', HB5⟩
      · skip
        refine Comes.mk (o := ⟨some 202, _, _, _, _, _⟩) rfl (fun K hK => ?_)
        go_simp
        replace hR := hR.lit 3 1 3 #[.int .i64 127, .int .i64 124, .int .i64 to_] rfl (by decide)
        refine hK.out _ _ (.inr hR.bl) ?_
        clear hK K
        try simp only [List.setIfInBounds_toArray, List.set]
        generalize (w5.alloc (.cells #[.int .i64 127, .int .i64 124, .int .i64 to_] 3)) = x13 at hR ⊢
        refine Rest.one (i := 2) (by kernel_rfl) ?_
        refine Comes.mk (o := ⟨some 194, _, _, _, _, _⟩) rfl (fun K hK => ?_)
        go_simp
        replace hR := hR.lit 3 1 0 #[] rfl (by decide)
        refine hK.out _ _ (.inr hR.bl) ?_
        clear hK K
        try simp only [List.setIfInBounds_toArray, List.set]
        generalize (x13.alloc (.cells #[] 3)) = x14 at hR ⊢
        refine Rest.one (i := 8) (by kernel_rfl) ?_
        refine Comes.mk (o := ⟨some 200, _, _, _, _, _⟩) rfl (fun K hK => ?_)
        refine step_append_row rfl (.tmp 194) (.tmp 199) 22 3 rfl _ 1 8 Try.underlying22 Try.infoInt rfl (by decide) (by decide) (.slice (some ⟨x13.heap.size, 0, none⟩) 0 0) 0 [] (by rfl) hR.head _ nl1 (xf.loc.map (Value.int .i64)) (by rfl) (by rw [List.length_map, HL1.out, Nat.mul_one]) (HNL.out.below (HF3.out.trans (hR.bl.mono HF3.out.size))) (by simp [Value.oneCell']) (by have := HLM.out; omega) ?_
        intro v15 x15 ho15 hg15 hat15
        simp only [Nat.zero_add, List.nil_append] at ho15
        replace hR := hR.grow hg15 ho15 hat15
        obtain ⟨A15, c15, rfl⟩ := owns_slice ho15
        clear ho15 hg15 hat15
        refine hK.out _ _ (.inr hR.bl) ?_
        clear hK K
        try simp only [Act.put, List.setIfInBounds_toArray, List.set]
        refine Rest.one (i := 13) (by kernel_rfl) ?_
        refine Comes.mk (o := ⟨some 205, _, _, _, _, _⟩) rfl (fun K hK => ?_)
        have kc := (HT5.out _ hR.bl).t1
        go_simp
        refine (at_any pos 3 (by decide) (by decide) _).mono ?_
        rintro e w' ⟨⟨r, hr, rfl⟩, rfl⟩
        clear kc
        obtain ⟨z3, hz3⟩ := lit3_at to_ r hr
        have HZ3 := Lib.hid hz3
        clear hz3
        have hr5 : (r : Int) < 3 := by omega
        have hr6 : (0 : Int) ≤ (r : Int) := by omega
        go_wp2_with fail
        refine hK.out _ _ (.inr hR.bl) ?_
        clear hK K
        try simp only [List.setIfInBounds_toArray, List.set]
        refine Rest.take (i := 14) (oi := ⟨some 206, _, _, _, _, _⟩) (v := ?_) rfl (by kernel_rfl) (by kernel_rfl) (by kernel_rfl) (by kernel_rfl) (fun _ _ _ h => h) (Or.inl ⟨by rfl, ?_⟩) hR.bl ?_
        rotate_left
        · intro w' hSw; go_simp; try with_reducible rfl
        try simp only [Act.put, List.setIfInBounds_toArray, List.set]
        refine Rest.one (i := 15) (by kernel_rfl) ?_
        refine Comes.mk (o := ⟨some 207, _, _, _, _, _⟩) rfl (fun K hK => ?_)
        have kp := (hR.ow _ (List.mem_cons_of_mem _ (List.mem_cons_self ..))).cells (c := 3) (by rfl) rfl r _ HZ3.out
        go_simp
        clear kp
        refine hK.out _ _ (.inr hR.bl) ?_
        clear hK K
        try simp only [List.setIfInBounds_toArray, List.set]
        refine Rest.one (i := 16) (by kernel_rfl) ?_
        refine Comes.mk (o := ⟨some 208, _, _, _, _, _⟩) rfl (fun K hK => ?_)
        go_simp
        replace hR := hR.lit 3 1 1 #[.int .i64 z3] rfl (by decide)
        refine hK.out _ _ (.inr hR.bl) ?_
        clear hK K
        try simp only [List.setIfInBounds_toArray, List.set]
        generalize (x15.alloc (.cells #[.int .i64 z3] 3)) = x16 at hR ⊢
        refine Rest.one (i := 17) (by kernel_rfl) ?_
        refine Comes.mk (o := ⟨some 209, _, _, _, _, _⟩) rfl (fun K hK => ?_)
        replace hR := hR.swap
        refine step_append_row rfl (.tmp 200) (.tmp 208) 22 3 rfl _ 1 8 Try.underlying22 Try.infoInt rfl (by decide) (by decide) (.slice A15 nl1 c15) nl1 (xf.loc.map (Value.int .i64)) (by rfl) hR.head (.slice (some ⟨x15.heap.size, 0, none⟩) 1 1) 1 [.int .i64 z3] (by rfl) (by rfl) (owns_news hR.tail.head) (by simp [Value.oneCell']) (by have := HLM.out; omega) ?_
        intro v17 x17 ho17 hg17 hat17
        replace hR := hR.grow hg17 ho17 hat17
        obtain ⟨A17, c17, rfl⟩ := owns_slice ho17
        clear ho17 hg17 hat17
        refine hK.out _ _ (.inr hR.bl) ?_
        clear hK K
        try simp only [Act.put, List.setIfInBounds_toArray, List.set]
        refine Rest.one (i := 18) (by kernel_rfl) ?_
        refine Comes.mk (o := ⟨some 210, _, _, _, _, _⟩) rfl (fun K hK => ?_)
        go_simp
        refine hK.out _ _ (.inr hR.bl) ?_
        clear hK K
        try simp only [List.setIfInBounds_toArray, List.set]
        refine Rest.take (i := 19) (oi := ⟨some 211, _, _, _, _, _⟩) (v := ?_) rfl (by kernel_rfl) (by kernel_rfl) (by kernel_rfl) (by kernel_rfl) (fun _ _ _ h => h) (Or.inl ⟨by rfl, ?_⟩) hR.bl ?_
        rotate_left
        · intro w' hSw; go_simp; try with_reducible rfl
        try simp only [Act.put, List.setIfInBounds_toArray, List.set]
        refine Rest.one (i := 20) (by kernel_rfl) ?_
        refine Comes.mk (o := ⟨none, _, _, _, _, _⟩) rfl (fun K hK => ?_)
        have kx := (hR.bl.cell (p := ⟨gF, q * 3 + 1, none⟩) HGL.out).trans HKL1.out
        have fx := (HF5.out.below hR.bl).head.frozenAt (q * 3 + 1)
        go_simp
        refine hK.out _ _ (.inl rfl) ?_
        clear hK K
        refine Rest.done (by kernel_rfl) ?_ _
        clear kx fx
        rw [show (xf.loc.map (Value.int .i64)) ++ [.int .i64 z3] = (xf.loc ++ [z3]).map (Value.int .i64) by simp] at hR
        have hin := hR.intsK (K := fun g => KB K w x17 g ∧ g ≠ gF) (fun g h1 h2 => ⟨⟨h2, .inr (by have := HBX.out.three; have := HF3.out.size; omega)⟩, by have := HGL.out; omega⟩) (List.mem_cons_self ..) (by rw [List.length_append, HL1.out]; rfl) (by have := HLM.out; unfold maxLen; omega)
        obtain ⟨m', hb⟩ := HBX.out.funs (i0 := 1) (q := q) (u0 := (.slice A17 (nl1 + 1) c17)) (HF5.out.below hR.bl) HGD.out HN2.out hq (by decide) (fun y => { y with loc := xf.loc ++ [z3] }) (fun y hy => ⟨⟨by show (xf.loc ++ [z3]).length ≤ _; rw [List.length_append, HL1.out]; have := HLM.out; simp only [List.length_singleton]; omega, by have := hy.2; show y.code.length ≤ _; omega⟩, fun K wz i u _ hne h => match i, hne, h with | 0, _, h => h | 1, hne, _ => absurd rfl hne | _ + 2, _, h => h⟩) (fun y => hin)
        have HB5 := Lib.hid hb
        clear hb hin
        have hne8 := box_far HBX.out.three HGF.out
        have k2' := (HC5.out _ hR.bl).c2
        simp only at k2'
        have kx := far_cell (u := (.slice A17 (nl1 + 1) c17)) (i := q * 3 + 1) k2' hne8
        have fx := far_frozen (u := (.slice A17 (nl1 + 1) c17)) (i := q * 3 + 1) ((HBX.out.below (HF3.out.trans (hR.bl.mono HF3.out.size))).frozen 2) hne8
        clear hne8 k2' hR
        go_wp2
        go_meet
        exact ⟨_, m', HB5⟩
  case rest =>
    obtain ⟨v', m', HB⟩ := hcut
    clear HBX HC HT HKK k0 k1 k2 k3 k4 k5 k6 k7 t0 t1 t2 t3 t4 t5 t6 t7 t8
    obtain ⟨B0, e0, B1, e1, B2, e2, B3, e3, B4, e4, B5, e5, B6, e6, B7, e7, hv'⟩ := HB.out.at_.forms
    subst hv'
    generalize hl0 : m'.types.length = l0 at *
    clear hl0
    generalize hl1 : m'.imps.length = l1 at *
    clear hl1
    generalize hl2 : m'.funs.length = l2 at *
    clear hl2
    generalize hl3 : m'.mems.length = l3 at *
    clear hl3
    generalize hl4 : m'.globs.length = l4 at *
    clear hl4
    generalize hl5 : m'.exps.length = l5 at *
    clear hl5
    generalize hl6 : m'.datas.length = l6 at *
    clear hl6
    generalize hl7 : m'.cus.length = l7 at *
    clear hl7
    obtain ⟨kk0, kk1, kk2, kk3, kk4, kk5, kk6, kk7⟩ := HB.out.cells
    simp only at kk0 kk1 kk2 kk3 kk4 kk5 kk6 kk7
    obtain ⟨z0, s0⟩ := zeroed8 HB.out.res 0 (by omega)
    obtain ⟨z1, s1⟩ := zeroed8 HB.out.res 1 (by omega)
    obtain ⟨z2, s2⟩ := zeroed8 HB.out.res 2 (by omega)
    obtain ⟨z3, s3⟩ := zeroed8 HB.out.res 3 (by omega)
    obtain ⟨z4, s4⟩ := zeroed8 HB.out.res 4 (by omega)
    obtain ⟨z5, s5⟩ := zeroed8 HB.out.res 5 (by omega)
    obtain ⟨z6, s6⟩ := zeroed8 HB.out.res 6 (by omega)
    obtain ⟨z7, s7⟩ := zeroed8 HB.out.res 7 (by omega)
    have HBX0 := Lib.hid HB.out.lo
    have HFL := Lib.hid (fill8_at HB.out.res ⟨.slice B0 l0 e0, .slice B1 l1 e1, .slice B2 l2 e2, .slice B3 l3 e3, .slice B4 l4 e4, .slice B5 l5 e5, .slice B6 l6 e6, .slice B7 l7 e7⟩)
    have HFIN : Hid (OddPost K (k + 1) w (.returned (.agg #[.slice B0 l0 e0, .slice B1 l1 e1, .slice B2 l2 e2, .slice B3 l3 e3, .slice B4 l4 e4, .slice B5 l5 e5, .slice B6 l6 e6, .slice B7 l7 e7])) (fill8 wc (w.heap.size + 1 + 1) ⟨.slice B0 l0 e0, .slice B1 l1 e1, .slice B2 l2 e2, .slice B3 l3 e3, .slice B4 l4 e4, .slice B5 l5 e5, .slice B6 l6 e6, .slice B7 l7 e7⟩)) := Lib.hid ⟨⟨.slice B0 l0 e0, .slice B1 l1 e1, .slice B2 l2 e2, .slice B3 l3 e3, .slice B4 l4 e4, .slice B5 l5 e5, .slice B6 l6 e6, .slice B7 l7 e7⟩, m', rfl, HB.out.at_.keep ((fill8_keeps _ _ _).mono fun _ hk e => by rcases hk.2 with h2 | h2; (· have := HBX0.out _ h2; omega); (· omega)) (fun _ hk => hk.2.elim .inl fun h2 => .inr ⟨by omega, Nat.lt_of_lt_of_le hk.1 (fill8_keeps _ _ _).size⟩), HB.out.sz, below_fill8 HB.out.bl (by omega) _⟩
    clear HB
    go_wp2
    have hfl := HFL.out
    unfold fill8 at hfl
    have hfin := HFIN.out
    unfold fill8 at hfin
    simp only [Mv.cells] at hfl
    exact bodyPost_ret (v := .agg #[.slice B0 l0 e0, .slice B1 l1 e1, .slice B2 l2 e2, .slice B3 l3 e3, .slice B4 l4 e4, .slice B5 l5 e5, .slice B6 l6 e6, .slice B7 l7 e7]) (by simp [results, Try.results11, go_sem, World.cell?, hfl]) rfl hfin
end Go.Proofs.Ytloonhmemgidgaa
namespace Go.Proofs.Ytloonhmemgidgaa
open Go.RowKit
theorem odd_any (K : Nat → Prop) (w : World) (hK : ∀ g, K g → g < w.heap.size) (v : Mv) (m : Mdl) (k : Nat) (hk : k ≤ 10) (hm : ModAt K w v m) (hs : Sz k m) (hf : 0 < m.funs.length) (t : Trn) (Lv : Value) (hL : IntsK K w Lv t.raw.l) :
    Calls Try.prog 11 #[.agg v.cells, t.val Lv] w (OddPost K (k + 1) w) := by
  by_cases h3 : t.what.tmod 4 = 3
  · rcases (show t.what % 1048577 / 4 % 9 = 0 ∨ t.what % 1048577 / 4 % 9 = 1 ∨ t.what % 1048577 / 4 % 9 = 2 ∨ t.what % 1048577 / 4 % 9 = 3 ∨ t.what % 1048577 / 4 % 9 = 4 ∨ t.what % 1048577 / 4 % 9 = 5 ∨ t.what % 1048577 / 4 % 9 = 6 ∨ t.what % 1048577 / 4 % 9 = 7 ∨ t.what % 1048577 / 4 % 9 = 8 by omega) with h | h | h | h | h | h | h | h | h
    · exact odd_P K w hK v m k hk hm hs hf t Lv hL h3 (.inl h)
    · exact odd_P K w hK v m k hk hm hs hf t Lv hL h3 (.inr (.inl h))
    · exact odd_P K w hK v m k hk hm hs hf t Lv hL h3 (.inr (.inr (.inl h)))
    · exact odd_Q K w hK v m k hk hm hs hf t Lv hL h3 h
    · exact odd_R K w hK v m k hk hm hs hf t Lv hL h3 h
    · exact odd_S K w hK v m k hk hm hs hf t Lv hL h3 (.inl h)
    · exact odd_P K w hK v m k hk hm hs hf t Lv hL h3 (.inr (.inr (.inr (.inl h))))
    · exact odd_S K w hK v m k hk hm hs hf t Lv hL h3 (.inr h)
    · exact odd_P K w hK v m k hk hm hs hf t Lv hL h3 (.inr (.inr (.inr (.inr h))))
  · exact odd_B K w hK v m k hk hm hs hf t Lv hL h3
end Go.Proofs.Ytloonhmemgidgaa
namespace Go.Proofs.Ytloonhmemgidgaa
open Go.RowKit

/-- A row of turns. -/
def trn0 : Trn := ⟨0, 0, 0, 0, ins0⟩
def trnCell (K : Nat → Prop) (w : World) (x : Trn) : Nat → Value → Prop
  | 0, u => u = .int .i64 x.what
  | 1, u => u = .int .i64 x.pos
  | 2, u => u = .int .i64 x.to_
  | 3, u => u = .int .u64 x.n
  | 4, u => u = .int .i64 x.raw.op
  | 5, u => u = .int .i64 x.raw.a
  | 6, u => u = .int .i64 x.raw.b
  | 7, u => u = .int .u64 x.raw.n
  | _, u => IntsK K w u x.raw.l
def TrnsK (K : Nat → Prop) (w : World) (v : Value) (l : List Trn) : Prop := CellsK K w v l.length 9 fun j i u => trnCell K w (l.getD j trn0) i u
theorem trnCell.keep {K K' : Nat → Prop} {w w' : World} {x : Trn} {i : Nat} {u : Value} (h : trnCell K w x i u) (hk : Keeps K w w') (hm : ∀ k, K k → K' k) : trnCell K' w' x i u := by
  match i, h with
  | 0, h => exact h
  | 1, h => exact h
  | 2, h => exact h
  | 3, h => exact h
  | 4, h => exact h
  | 5, h => exact h
  | 6, h => exact h
  | 7, h => exact h
  | _ + 8, h => exact IntsK.keep h hk hm
theorem TrnsK.keep {K K' : Nat → Prop} {w w' : World} {v : Value} {l : List Trn} (h : TrnsK K w v l) (hk : Keeps K w w') (hm : ∀ k, K k → K' k) : TrnsK K' w' v l :=
  CellsK.keep h hk hm fun _ _ _ h => h.keep hk hm

/-- The boxes of the module and of the result, while Odd runs. -/
def KO (w0 w : World) (k : Nat) : Prop := k < w.heap.size ∧ (k < w0.heap.size ∨ w0.heap.size + 2 ≤ k)
structure OBox (w0 w : World) (v : Mv) (m : Mdl) (k : Nat) : Prop where
  box : w.heap[w0.heap.size]? = some (.cells v.cells 33 (0, 0))
  res : w.heap[w0.heap.size + 1]? = some (.cells zeroM 33 (0, 0))
  at_ : ModAt (KO w0 w) w v m
  sz : Sz k m
  bl : Below w0.heap.size w0 w
  two : w0.heap.size + 2 ≤ w.heap.size
theorem OBox.below {w0 w w' : World} {k : Nat} {v : Mv} {m : Mdl} (h : OBox w0 w v m k) (hb : Below w.heap.size w w') : OBox w0 w' v m k :=
  ⟨(hb.block _ (by have := h.two; omega)).trans h.box, (hb.block _ (by have := h.two; omega)).trans h.res, h.at_.keep (Keeps.below hb fun _ hk => hk.1) fun _ hk => ⟨Nat.lt_of_lt_of_le hk.1 hb.size, hk.2⟩, h.sz, h.bl.trans (hb.mono h.bl.size), Nat.le_trans h.two hb.size⟩
theorem OBox.cells {w0 w : World} {k : Nat} {v : Mv} {m : Mdl} (h : OBox w0 w v m k) : BoxC w0 w v := by
  have hc : ∀ i, w.cell? ⟨w0.heap.size, i, none⟩ = v.cells[i]? := fun i => by simp [World.cell?, h.box]
  exact ⟨hc 0, hc 1, hc 2, hc 3, hc 4, hc 5, hc 6, hc 7⟩
theorem OBox.frozen {w0 w : World} {k : Nat} {v : Mv} {m : Mdl} (h : OBox w0 w v m k) (i : Nat) : w.frozen? ⟨w0.heap.size, i, none⟩ = false := by simp [World.frozen?, h.box]
theorem fill8_any {w : World} {B : Nat} {T : TypeId} {v0 : Mv} (h : w.heap[B]? = some (.cells v0.cells T (0, 0))) (v : Mv) : (fill8 w B v).heap[B]? = some (.cells v.cells T (0, 0)) := by
  have h0 := heap_setCell_at w B 0 _ T v.m0 h
  have h1 := heap_setCell_at _ B 1 _ T v.m1 h0
  have h2 := heap_setCell_at _ B 2 _ T v.m2 h1
  have h3 := heap_setCell_at _ B 3 _ T v.m3 h2
  have h4 := heap_setCell_at _ B 4 _ T v.m4 h3
  have h5 := heap_setCell_at _ B 5 _ T v.m5 h4
  have h6 := heap_setCell_at _ B 6 _ T v.m6 h5
  have h7 := heap_setCell_at _ B 7 _ T v.m7 h6
  have e : (((((((v0.cells.setIfInBounds 0 v.m0).setIfInBounds 1 v.m1).setIfInBounds 2 v.m2).setIfInBounds 3 v.m3).setIfInBounds 4 v.m4).setIfInBounds 5 v.m5).setIfInBounds 6 v.m6).setIfInBounds 7 v.m7 = v.cells := by simp [Mv.cells]
  rw [e] at h7
  exact h7
/-- Another module in the box. -/
theorem OBox.fill {w0 w x : World} {k k' : Nat} {v v' : Mv} {m m' : Mdl} (h : OBox w0 w v m k) (hb : Below w.heap.size w x) (hm : ModAt (fun g => KO w0 w g ∨ w.heap.size ≤ g ∧ g < x.heap.size) x v' m') (hs : Sz k' m') : OBox w0 (fill8 x w0.heap.size v') v' m' k' := by
  have hx := h.below hb
  have hk := fill8_keeps x w0.heap.size v'
  have h2 := h.two
  refine ⟨fill8_any hx.box v', (hk.block _ (by omega)).trans hx.res, hm.keep (hk.mono fun g hg e => ?_) fun g hg => ?_, hs, below_fill8 hx.bl (Nat.le_refl _) v', Nat.le_trans hx.two hk.size⟩
  · rcases hg with hg | hg
    · have := hg.2; omega
    · omega
  · rcases hg with hg | hg
    · exact ⟨Nat.lt_of_lt_of_le (Nat.lt_of_lt_of_le hg.1 hb.size) hk.size, hg.2⟩
    · exact ⟨Nat.lt_of_lt_of_le hg.2 hk.size, .inr (by omega)⟩
def OddsPost (w : World) (e : Ending) (w' : World) : Prop := ∃ v m, e = .returned (.agg v.cells) ∧ ModAt (lt w') w' v m ∧ Sz 4 m ∧ Below w.heap.size w w'
set_option maxRecDepth 100000 in
set_option maxHeartbeats 100000000 in
theorem odds_any (w : World) (v : Mv) (m : Mdl) (hm : ModAt (lt w) w v m) (hs : Sz 0 m) (tv : Value) (ts : List Trn) (ht : TrnsK (lt w) w tv ts) :
    Calls Try.prog 5 #[.agg v.cells, tv] w (OddsPost w) := by
  obtain ⟨At, ct, htv, hnt, hct⟩ := CellsK.form ht
  have HTS := Lib.hid ht
  rw [htv] at HTS ⊢
  clear ht htv
  obtain ⟨nt, hnt'⟩ : ∃ n, ts.length = n := ⟨_, rfl⟩
  rw [hnt'] at HTS hnt ⊢
  have HNT := Lib.hid hnt'
  have HCT := Lib.hid hct
  clear hnt' hct
  obtain ⟨A0, c0, A1, c1, A2, c2, A3, c3, A4, c4, A5, c5, A6, c6, A7, c7, rfl⟩ := hm.forms
  simp only [Mv.cells]
  generalize hl0 : m.types.length = n0 at *
  generalize hl1 : m.imps.length = n1 at *
  generalize hl2 : m.funs.length = n2 at *
  generalize hl3 : m.mems.length = n3 at *
  generalize hl4 : m.globs.length = n4 at *
  generalize hl5 : m.exps.length = n5 at *
  generalize hl6 : m.datas.length = n6 at *
  generalize hl7 : m.cus.length = n7 at *
  clear hl0 hl1 hl2 hl3 hl4 hl5 hl6 hl7
  obtain ⟨w3, hw3⟩ : ∃ w3, w3 = ((w.alloc (.cells #[.slice A0 n0 c0, .slice A1 n1 c1, .slice A2 n2 c2, .slice A3 n3 c3, .slice A4 n4 c4, .slice A5 n5 c5, .slice A6 n6 c6, .slice A7 n7 c7] 33)).alloc (.cells zeroM 33)) := ⟨_, rfl⟩
  have ha0 := alloc_fold [.cells #[.slice A0 n0 c0, .slice A1 n1 c1, .slice A2 n2 c2, .slice A3 n3 c3, .slice A4 n4 c4, .slice A5 n5 c5, .slice A6 n6 c6, .slice A7 n7 c7] 33, .cells zeroM 33] w 0 _ rfl
  have ha1 := (alloc_fold [.cells #[.slice A0 n0 c0, .slice A1 n1 c1, .slice A2 n2 c2, .slice A3 n3 c3, .slice A4 n4 c4, .slice A5 n5 c5, .slice A6 n6 c6, .slice A7 n7 c7] 33, .cells zeroM 33] w 1 _ rfl).1
  change ((w.alloc (.cells #[.slice A0 n0 c0, .slice A1 n1 c1, .slice A2 n2 c2, .slice A3 n3 c3, .slice A4 n4 c4, .slice A5 n5 c5, .slice A6 n6 c6, .slice A7 n7 c7] 33)).alloc (.cells zeroM 33)).heap[w.heap.size]? = _ ∧ Below w.heap.size w ((w.alloc (.cells #[.slice A0 n0 c0, .slice A1 n1 c1, .slice A2 n2 c2, .slice A3 n3 c3, .slice A4 n4 c4, .slice A5 n5 c5, .slice A6 n6 c6, .slice A7 n7 c7] 33)).alloc (.cells zeroM 33)) ∧ ((w.alloc (.cells #[.slice A0 n0 c0, .slice A1 n1 c1, .slice A2 n2 c2, .slice A3 n3 c3, .slice A4 n4 c4, .slice A5 n5 c5, .slice A6 n6 c6, .slice A7 n7 c7] 33)).alloc (.cells zeroM 33)).heap.size = w.heap.size + 2 at ha0
  change ((w.alloc (.cells #[.slice A0 n0 c0, .slice A1 n1 c1, .slice A2 n2 c2, .slice A3 n3 c3, .slice A4 n4 c4, .slice A5 n5 c5, .slice A6 n6 c6, .slice A7 n7 c7] 33)).alloc (.cells zeroM 33)).heap[w.heap.size + 1]? = _ at ha1
  rw [← hw3] at ha0 ha1
  obtain ⟨ha0, hbm, hsz⟩ := ha0
  have HB0 : Hid (OBox w w3 ⟨.slice A0 n0 c0, .slice A1 n1 c1, .slice A2 n2 c2, .slice A3 n3 c3, .slice A4 n4 c4, .slice A5 n5 c5, .slice A6 n6 c6, .slice A7 n7 c7⟩ m 0) := Lib.hid ⟨ha0, ha1, hm.keep (Keeps.below hbm fun _ hk => hk) fun g hg => ⟨Nat.lt_of_lt_of_le hg hbm.size, .inl hg⟩, hs, hbm, by rw [hsz]; exact Nat.le_refl _⟩
  clear hm hs ha0 ha1 hsz
  go_enter Try.func5, Try.ntmps5
  go_upto_region 1 with (fail)
  rw [show zeroM = #[.slice none 0 0, .slice none 0 0, .slice none 0 0, .slice none 0 0, .slice none 0 0, .slice none 0 0, .slice none 0 0, .slice none 0 0] from rfl] at hw3
  rw [← hw3]
  clear hw3 hbm
  go_wp2_with fail
  go_loopw [5] (fun i wr => ∃ (j : Nat) (v' : Mv) (m' : Mdl), j ≤ 4 ∧ i = .int .i64 (j : Int) ∧ Hid (OBox w wr v' m' j)) (fun i _ => 4 - (intOf i).toNat)
  case atStart => exact ⟨0, _, m, Nat.zero_le _, rfl, HB0⟩
  case round =>
    obtain ⟨j, v1, m1, hj, rfl, HB⟩ := hrel
    obtain ⟨w4, rfl⟩ : ∃ w4, w4 = wr := ⟨_, rfl⟩
    clear HB0
    obtain ⟨A0, c0, A1, c1, A2, c2, A3, c3, A4, c4, A5, c5, A6, c6, A7, c7, rfl⟩ := HB.out.at_.forms
    generalize hl0 : m1.types.length = n0 at *
    generalize hl1 : m1.imps.length = n1 at *
    generalize hl2 : m1.funs.length = n2 at *
    generalize hl3 : m1.mems.length = n3 at *
    generalize hl4 : m1.globs.length = n4 at *
    generalize hl5 : m1.exps.length = n5 at *
    generalize hl6 : m1.datas.length = n6 at *
    generalize hl7 : m1.cus.length = n7 at *
    clear hl0 hl1 hl2 hl3 hl4 hl5 hl6 hl7
    by_cases hlt : j < nt ∧ j < 4
    · obtain ⟨hlt, hj4⟩ := hlt
      have hd0 : decide ((j : Int) < (nt : Int)) = true := by simp; omega
      have hd1 : decide ((j : Int) < 4) = true := by simp; omega
      obtain ⟨gt, ot, ct', he, _, _⟩ := CellsK.some_ HTS.out (by rw [HNT.out]; omega)
      simp only [Value.slice.injEq] at he
      obtain ⟨rfl, -, rfl⟩ := he
      have htc : ∀ i, i < 9 → ∃ u, w.cell? ⟨gt, ot + j * 9 + i, none⟩ = some u ∧ trnCell (lt w) w (ts.getD j trn0) i u := fun i hi => CellsK.at_ HTS.out j i (by rw [HNT.out]; exact hlt) hi
      obtain ⟨⟨what, pos, to_, tn, ⟨op, ra, rb, rn, rl⟩⟩, htj⟩ : ∃ t, ts.getD j trn0 = t := ⟨_, rfl⟩
      rw [htj] at htc
      obtain ⟨_, q0, rfl⟩ := htc 0 (by decide)
      obtain ⟨_, q1, rfl⟩ := htc 1 (by decide)
      obtain ⟨_, q2, rfl⟩ := htc 2 (by decide)
      obtain ⟨_, q3, rfl⟩ := htc 3 (by decide)
      obtain ⟨_, q4, rfl⟩ := htc 4 (by decide)
      obtain ⟨_, q5, rfl⟩ := htc 5 (by decide)
      obtain ⟨_, q6, rfl⟩ := htc 6 (by decide)
      obtain ⟨_, q7, rfl⟩ := htc 7 (by decide)
      obtain ⟨uL, q8, hL⟩ := htc 8 (by decide)
      have hL2 : IntsK (lt w) w uL rl := hL
      obtain ⟨Al, cl, rfl, hlm, _⟩ := hL2.form
      rw [Nat.add_zero] at q0
      simp only at q0 q1 q2 q3 q4 q5 q6 q7
      have hgt := World.block_lt_of_cell? _ _ q0
      have HTC : Hid (∀ wz, Below w4.drew.heap.size w4.drew wz → wz.cell? ⟨gt, ot + j * 9, none⟩ = some (.int .i64 what) ∧ wz.cell? ⟨gt, ot + j * 9 + 1, none⟩ = some (.int .i64 pos) ∧ wz.cell? ⟨gt, ot + j * 9 + 2, none⟩ = some (.int .i64 to_) ∧ wz.cell? ⟨gt, ot + j * 9 + 3, none⟩ = some (.int .u64 tn) ∧ wz.cell? ⟨gt, ot + j * 9 + 4, none⟩ = some (.int .i64 op) ∧ wz.cell? ⟨gt, ot + j * 9 + 5, none⟩ = some (.int .i64 ra) ∧ wz.cell? ⟨gt, ot + j * 9 + 6, none⟩ = some (.int .i64 rb) ∧ wz.cell? ⟨gt, ot + j * 9 + 7, none⟩ = some (.int .u64 rn) ∧ wz.cell? ⟨gt, ot + j * 9 + 8, none⟩ = some (.slice Al rl.length cl)) := Lib.hid fun wz hb => by
        have hbb : Below w.heap.size w wz := (HB.out.below (below_drewN (Below.refl w4.heap.size w4) 1)).bl.trans (hb.mono (HB.out.below (below_drewN (Below.refl w4.heap.size w4) 1)).bl.size)
        have hq : ∀ o u, w.cell? ⟨gt, o, none⟩ = some u → wz.cell? ⟨gt, o, none⟩ = some u := fun o u h => (hbb.cell (p := ⟨gt, o, none⟩) hgt).trans h
        exact ⟨hq _ _ q0, hq _ _ q1, hq _ _ q2, hq _ _ q3, hq _ _ q4, hq _ _ q5, hq _ _ q6, hq _ _ q7, hq _ _ q8⟩
      have HX5 := Lib.hid (HB.out.below (below_drewN (Below.refl _ _) 1))
      change Hid (OBox w w4.drew _ _ _) at HX5
      have hLk : IntsK (KO w w4.drew) w4.drew (.slice Al rl.length cl) rl := hL2.keep (Keeps.below HX5.out.bl fun _ hk => hk) fun g hg => ⟨Nat.lt_of_lt_of_le hg HX5.out.bl.size, .inl hg⟩
      have HCA := Lib.hid (odd_any (KO w w4.drew) w4.drew (fun g hg => hg.1) ⟨.slice A0 n0 c0, .slice A1 n1 c1, .slice A2 n2 c2, .slice A3 n3 c3, .slice A4 n4 c4, .slice A5 n5 c5, .slice A6 n6 c6, .slice A7 n7 c7⟩ m1 j (by omega) HX5.out.at_ HX5.out.sz HX5.out.sz.fp ⟨what, pos, to_, tn, ⟨op, ra, rb, rn, rl⟩⟩ (.slice Al rl.length cl) hLk)
      simp only [Trn.val, Mv.cells] at HCA
      generalize rl.length = nl at *
      clear q0 q1 q2 q3 q4 q5 q6 q7 q8 hL hL2 hLk htc htj hgt HB
      go_upto_region 4 with (fail)
      refine Rest.start (X := 6) (S := fun w' => Below w4.drew.heap.size w4.drew w') (by kernel_rfl) ?_
      have hR := Rows.nil (Below.refl w4.drew.heap.size w4.drew)
      generalize w4.drew = w5 at *
      show Rest _ _ _ _ _ _ 7 #[false, false, false, false, false, false, false] _ _
      refine Rest.take (i := 0) (oi := ⟨some 16, _, _, _, _, _⟩) (v := ?_) rfl (by kernel_rfl) (by kernel_rfl) (by kernel_rfl) (by kernel_rfl) (fun _ _ _ h => h) (Or.inl ⟨by rfl, ?_⟩) hR.bl ?_
      rotate_left
      · intro w' hSw; obtain ⟨c0', c1', c2', c3', c4', c5', c6', c7'⟩ := (HX5.out.below hSw).cells; simp only at c0' c1' c2' c3' c4' c5' c6' c7'; go_simp; try with_reducible rfl
      try simp only [Act.put, List.setIfInBounds_toArray, List.set]
      refine Rest.take (i := 1) (oi := ⟨some 17, _, _, _, _, _⟩) (v := ?_) rfl (by kernel_rfl) (by kernel_rfl) (by kernel_rfl) (by kernel_rfl) (fun _ _ _ h => h) (Or.inl ⟨by rfl, ?_⟩) hR.bl ?_
      rotate_left
      · intro w' hSw; go_simp; try with_reducible rfl
      try simp only [Act.put, List.setIfInBounds_toArray, List.set]
      refine Rest.take (i := 2) (oi := ⟨some 18, _, _, _, _, _⟩) (v := ?_) rfl (by kernel_rfl) (by kernel_rfl) (by kernel_rfl) (by kernel_rfl) (fun _ _ _ h => h) (Or.inl ⟨by rfl, ?_⟩) hR.bl ?_
      rotate_left
      · intro w' hSw; go_simp; try with_reducible rfl
      try simp only [Act.put, List.setIfInBounds_toArray, List.set]
      refine Rest.take (i := 3) (oi := ⟨some 19, _, _, _, _, _⟩) (v := ?_) rfl (by kernel_rfl) (by kernel_rfl) (by kernel_rfl) (by kernel_rfl) (fun _ _ _ h => h) (Or.inl ⟨by rfl, ?_⟩) hR.bl ?_
      rotate_left
      · intro w' hSw; go_simp; try with_reducible rfl
      try simp only [Act.put, List.setIfInBounds_toArray, List.set]
      refine Rest.take (i := 4) (oi := ⟨some 20, _, _, _, _, _⟩) (v := ?_) rfl (by kernel_rfl) (by kernel_rfl) (by kernel_rfl) (by kernel_rfl) (fun _ _ _ h => h) (Or.inl ⟨by rfl, ?_⟩) hR.bl ?_
      rotate_left
      · intro w' hSw; obtain ⟨t0, t1, t2, t3, t4, t5, t6, t7, t8⟩ := HTC.out w' hSw; go_simp; try with_reducible rfl
      try simp only [Act.put, List.setIfInBounds_toArray, List.set]
      refine Rest.one (i := 5) (by kernel_rfl) ?_
      refine Comes.mk (o := ⟨some 21, _, _, _, _, _⟩) rfl (fun K hK => ?_)
      go_simp
      refine HCA.out.mono ?_
      rintro e x ⟨v', m', rfl, hm2, hs2, hb⟩
      obtain ⟨v'', hv''⟩ : ∃ v'', v'' = v' := ⟨_, rfl⟩
      obtain ⟨B0, e0, B1, e1, B2, e2, B3, e3, B4, e4, B5, e5, B6, e6, B7, e7, hv'⟩ := hm2.forms
      subst hv'
      subst hv''
      generalize hl0 : m'.types.length = l0 at *
      clear hl0
      generalize hl1 : m'.imps.length = l1 at *
      clear hl1
      generalize hl2 : m'.funs.length = l2 at *
      clear hl2
      generalize hl3 : m'.mems.length = l3 at *
      clear hl3
      generalize hl4 : m'.globs.length = l4 at *
      clear hl4
      generalize hl5 : m'.exps.length = l5 at *
      clear hl5
      generalize hl6 : m'.datas.length = l6 at *
      clear hl6
      generalize hl7 : m'.cus.length = l7 at *
      clear hl7
      have HM2 := Lib.hid hm2
      have HS2 := Lib.hid hs2
      clear hm2 hs2
      replace hR := Rows.nil hb
      clear hb
      simp only [Mv.cells]
      go_wp2_with fail
      refine hK.out _ _ (.inr hR.bl) ?_
      clear hK K
      try simp only [List.setIfInBounds_toArray, List.set]
      refine Rest.one (i := 6) (by kernel_rfl) ?_
      refine Comes.mk (o := ⟨none, _, _, _, _, _⟩) rfl (fun K hK => ?_)
      have hY := HX5.out.below hR.bl
      obtain ⟨g0, g1, g2, g3, g4, g5, g6, g7⟩ := hY.cells
      simp only at g0 g1 g2 g3 g4 g5 g6 g7
      have f0 := hY.frozen 0
      have f1 := hY.frozen 1
      have f2 := hY.frozen 2
      have f3 := hY.frozen 3
      have f4 := hY.frozen 4
      have f5 := hY.frozen 5
      have f6 := hY.frozen 6
      have f7 := hY.frozen 7
      clear hY
      go_simp
      refine hK.out _ _ (.inl rfl) ?_
      clear hK K
      refine Rest.done (by kernel_rfl) ?_ _
      have hb9 := HX5.out.fill (x := x) hR.bl HM2.out HS2.out
      simp only [fill8] at hb9
      have HB9 := Lib.hid hb9
      clear hb9 hR g0 f0 g1 f1 g2 f2 g3 f3 g4 f4 g5 f5 g6 f6 g7 f7
      go_wp2
      go_roundw
      case rel => exact ⟨j + 1, _, m', by omega, by go_num, HB9⟩
      case measure => simp [intOf]; omega
    · have HB4 : Hid (OBox w w4 ⟨.slice A0 n0 c0, .slice A1 n1 c1, .slice A2 n2 c2, .slice A3 n3 c3, .slice A4 n4 c4, .slice A5 n5 c5, .slice A6 n6 c6, .slice A7 n7 c7⟩ m1 4) := Lib.hid ⟨HB.out.box, HB.out.res, HB.out.at_, HB.out.sz.le hj, HB.out.bl, HB.out.two⟩
      clear HB
      obtain ⟨kk0, kk1, kk2, kk3, kk4, kk5, kk6, kk7⟩ := HB4.out.cells
      simp only at kk0 kk1 kk2 kk3 kk4 kk5 kk6 kk7
      obtain ⟨z0, s0⟩ := zeroed8 HB4.out.res 0 (by omega)
      obtain ⟨z1, s1⟩ := zeroed8 HB4.out.res 1 (by omega)
      obtain ⟨z2, s2⟩ := zeroed8 HB4.out.res 2 (by omega)
      obtain ⟨z3, s3⟩ := zeroed8 HB4.out.res 3 (by omega)
      obtain ⟨z4, s4⟩ := zeroed8 HB4.out.res 4 (by omega)
      obtain ⟨z5, s5⟩ := zeroed8 HB4.out.res 5 (by omega)
      obtain ⟨z6, s6⟩ := zeroed8 HB4.out.res 6 (by omega)
      obtain ⟨z7, s7⟩ := zeroed8 HB4.out.res 7 (by omega)
      have HFL := Lib.hid (fill8_at HB4.out.res ⟨.slice A0 n0 c0, .slice A1 n1 c1, .slice A2 n2 c2, .slice A3 n3 c3, .slice A4 n4 c4, .slice A5 n5 c5, .slice A6 n6 c6, .slice A7 n7 c7⟩)
      have HFIN : Hid (OddsPost w (.returned (.agg #[.slice A0 n0 c0, .slice A1 n1 c1, .slice A2 n2 c2, .slice A3 n3 c3, .slice A4 n4 c4, .slice A5 n5 c5, .slice A6 n6 c6, .slice A7 n7 c7])) (fill8 w4 (w.heap.size + 1) ⟨.slice A0 n0 c0, .slice A1 n1 c1, .slice A2 n2 c2, .slice A3 n3 c3, .slice A4 n4 c4, .slice A5 n5 c5, .slice A6 n6 c6, .slice A7 n7 c7⟩)) := Lib.hid ⟨⟨.slice A0 n0 c0, .slice A1 n1 c1, .slice A2 n2 c2, .slice A3 n3 c3, .slice A4 n4 c4, .slice A5 n5 c5, .slice A6 n6 c6, .slice A7 n7 c7⟩, m1, rfl, HB4.out.at_.keep ((fill8_keeps _ _ _).mono fun _ hk e => by have := hk.2; omega) (fun _ hk => Nat.lt_of_lt_of_le hk.1 (fill8_keeps _ _ _).size), HB4.out.sz, below_fill8 HB4.out.bl (by omega) _⟩
      clear HB4 HTS
      by_cases h1 : j < nt
      · have hd0 : decide ((j : Int) < (nt : Int)) = true := by simp; omega
        have hd1 : decide ((j : Int) < 4) = false := by simp; omega
        go_wp2
        have hfl := HFL.out
        unfold fill8 at hfl
        have hfin := HFIN.out
        unfold fill8 at hfin
        simp only [Mv.cells] at hfl
        exact bodyPost_ret (v := .agg #[.slice A0 n0 c0, .slice A1 n1 c1, .slice A2 n2 c2, .slice A3 n3 c3, .slice A4 n4 c4, .slice A5 n5 c5, .slice A6 n6 c6, .slice A7 n7 c7]) (by simp [results, Try.results5, go_sem, World.cell?, hfl]) rfl hfin
      · have hd0 : decide ((j : Int) < (nt : Int)) = false := by simp; omega
        go_wp2
        have hfl := HFL.out
        unfold fill8 at hfl
        have hfin := HFIN.out
        unfold fill8 at hfin
        simp only [Mv.cells] at hfl
        exact bodyPost_ret (v := .agg #[.slice A0 n0 c0, .slice A1 n1 c1, .slice A2 n2 c2, .slice A3 n3 c3, .slice A4 n4 c4, .slice A5 n5 c5, .slice A6 n6 c6, .slice A7 n7 c7]) (by simp [results, Try.results5, go_sem, World.cell?, hfl]) rfl hfin
end Go.Proofs.Ytloonhmemgidgaa
