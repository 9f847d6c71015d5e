/-
  MatchWraps' walk.
-/
import Derived.Test.YtdfonjnplmfhfaaMwc
import Derived.Test.YtdfonjnplmfhfaaMne
import Derived.Test.YtdfonjnplmfhfaaLast
namespace Go.Proofs.Ytdfonjnplmfhfaa
open Go.RowKit

theorem OwnR.in_.cells' {r : OwnR} {w : World} (h : r.in_ w) {g n c : Nat} (hs : r.xs.length = r.n * r.size) (hv : r.v = .slice (some ⟨g, 0, none⟩) n c) : ∀ j u, r.xs[j]? = some u → w.cell? ⟨g, j, none⟩ = some u := by
  intro j u hu
  have hj : j < r.n * r.size := by
    rcases Nat.lt_or_ge j r.xs.length with h1 | h1
    · omega
    · rw [List.getElem?_eq_none h1] at hu; cases hu
  unfold OwnR.in_ at h
  split at h
  · obtain ⟨e, size, v, n', xs, live⟩ := r
    simp only at hv
    subst hv
    have h2 := h.2
    rcases h2 with ⟨h2, _⟩ | ⟨g', cap, cur, h2, _⟩
    · cases h2
    · simp only [Value.slice.injEq, Option.some.injEq, Addr.mk.injEq] at h2
      obtain ⟨_, rfl, rfl⟩ := h2
      rw [h.cellAt j hj]
      exact hu
  · obtain ⟨g', c', h1, _, _, h3⟩ := h
    rw [hv] at h1
    simp only [Value.slice.injEq, Option.some.injEq, Addr.mk.injEq] at h1
    obtain ⟨⟨rfl, _⟩, _⟩ := h1
    exact h3 j u hu
/-- S may be made stronger on the way. -/
theorem Rest.strong {P : Program} {ops : Array Oper} {Q : Exit → Act → World → Prop} {md : Region.Mode} {S S' : World → Prop} {X : Nat} (hs : ∀ w, S' w → S w) :
    ∀ (n : Nat) (L : Array Bool) (a : Act) (w : World), Rest P md ops Q S' X n L a w → Rest P md ops Q S X n L a w
  | 0, _, _, _, h => h
  | n + 1, _, _, _, h => ⟨h.1, fun k hk => wpOp_mono (fun _ _ h' => ⟨h'.1.imp id (hs _), Rest.strong hs n _ _ _ h'.2⟩) (h.2 k hk)⟩
/-- New blocks, by one name. -/
def Bel (w w' : World) : Prop := Below w.heap.size w w'
theorem ones11 : ∀ u ∈ [Value.int .i64 11, .int .i64 0, .int .i64 0, .int .u64 0, .slice none 0 0], u.oneCell' = true := by simp [Value.oneCell']
theorem rem3 (z : Int) : ∃ r : Nat, r < 3 ∧ z.tmod 3 % 3 = (r : Int) ∧ (z.tmod 3 + 3) % 3 = (r : Int) ∧ IntKind.i64.wrap (z.tmod 3 + 3) = z.tmod 3 + 3 ∧ 0 ≤ z.tmod 3 + 3 ∧ (z.tmod 3 + 3).tmod 3 = (r : Int) := by
  have t0 := Int.lt_tmod_of_pos z (b := 3) (by omega)
  have t1 := Int.tmod_lt_of_pos z (b := 3) (by omega)
  exact ⟨(z.tmod 3 % 3).toNat, by omega, by omega, by omega, IntWalk.i64_in _ (by omega), by omega, by rw [Int.tmod_eq_emod_of_nonneg (by omega)]; omega⟩
theorem lit234 (r : Nat) (hr : r < 3) : ∃ u : Int, ([.int .i64 2, .int .i64 3, .int .i64 4] : List Value)[r]? = some (.int .i64 u) ∧ (u = 2 ∨ u = 3 ∨ u = 4) := by
  rcases (show r = 0 ∨ r = 1 ∨ r = 2 by omega) with rfl | rfl | rfl
  · exact ⟨_, rfl, .inl rfl⟩
  · exact ⟨_, rfl, .inr (.inl rfl)⟩
  · exact ⟨_, rfl, .inr (.inr rfl)⟩
/-- The code within one block more. -/
def WrapAt (wx : World) (A : Option Addr) (n c : Nat) (z : Int) (ops : List Int) : Prop := CodeAt wx A n (z :: ops ++ [11]) ∧ n ≤ c ∧ (z :: ops ++ [11]).length = n
theorem wraps_row {wx : World} {A : Option Addr} {n c : Nat} {z a : Int} {us : List Value} {ops : List Int} (ho : wx.ownsRow 0 43 5 (.slice A n c) n ([.int .i64 z, .int .i64 a, .int .i64 0, .int .u64 0, .slice none 0 0] ++ (us ++ [.int .i64 11, .int .i64 0, .int .i64 0, .int .u64 0, .slice none 0 0]))) (hg : GoodO us ops) : WrapAt wx A n c z ops := by
  have h1 := (GoodO.one z a 0 0 none 0 0).append (hg.append (GoodO.one 11 0 0 0 none 0 0))
  have hl := ho.1
  have hn : n = ([z] ++ (ops ++ [11])).length := by
    have h2 := h1.1
    rw [h2] at hl
    omega
  obtain ⟨h3, h4⟩ := h1.codeAt ho hn
  exact ⟨by simpa using h3, h4, by simpa using hn.symm⟩
theorem fun_facts2 {w : World} {g o m c : Nat} {l : List Fnc} (h : FunsK (fun k => k < w.heap.size) w (.slice (some ⟨g, o, none⟩) m c) l) (hok : ∀ f ∈ l, fncOk f) (j : Nat) (hj : j < l.length) :
    ∃ d out ty Al nl cl Ac cc us, FunFacts w g o j d out ty Al nl cl Ac cc ∧ News w (.slice Ac (d.length + 1) cc) (d.length + 1) us ∧ GoodO us (d ++ [11]) := by
  obtain ⟨Al, nl, cl, Ac, cc, k0, k1, k2, k3, k4⟩ := h.at_ j hj
  obtain ⟨_, _, _, _, hlen, d, hd, hn⟩ := hok _ (fnc_mem l j fnc0 hj)
  obtain ⟨out, ho, _⟩ := nested_facts _ hn
  obtain ⟨u2, q2, h2⟩ := CellsK.at_ h j 2 hj (by omega)
  have hu := Option.some.inj (k2.symm.trans q2)
  subst hu
  obtain ⟨us, h5, h6⟩ := CodeK.goodO (show CodeK _ w _ (l.getD j fnc0).code from h2)
  have e1 : (l.getD j fnc0).code.length = (d.map Ins.op).length + 1 := by rw [hd]; simp
  have e2 : (l.getD j fnc0).code.map Ins.op = d.map Ins.op ++ [11] := by rw [hd]; simp
  rw [e1] at k2 k3 k4 hlen h5
  rw [e2] at k4 h6
  exact ⟨_, out, _, Al, nl, cl, Ac, cc, us, ⟨k0, k1, k2, ⟨k3, hlen⟩, k4, hn, ho⟩, h5, h6⟩
theorem news_low {w0 w : World} {v : Value} {m : Nat} {us : List Value} (h : News w0 v m us) (hb : Below w0.heap.size w0 w) : News w v m us := by
  refine h.keep fun a c _ j u _ hc => ?_
  exact (hb.cell (p := a.add j) (World.block_lt_of_cell? _ _ hc)).trans hc

set_option maxRecDepth 100000 in
set_option maxHeartbeats 100000000 in
theorem wraps_walk (w : World) (tv : Value) (tl : List Int) (htl : IntsK (fun k => k < w.heap.size) w tv tl) (op : Int) :
    Calls Try.prog 3 #[tv, .int .i64 op] w (BoolPost true w) := by
  have HM := Lib.hid (module_any w tv tl htl)
  obtain ⟨At, ct, htv, _, _⟩ := htl.form
  clear htl
  rw [htv] at HM ⊢
  clear htv
  generalize tl.length = ntl at *
  obtain ⟨r, hr, e1, e2, e3, e4, e5⟩ := rem3 op
  obtain ⟨z, hz1, hz2⟩ := lit234 r hr
  have HZ := Lib.hid hz1
  have HZ2 := Lib.hid hz2
  clear hz1 hz2
  go_enter Try.func3, Try.ntmps3
  go_wp2_with fail
  go_at_call 4
  refine HM.out.mono ?_
  rintro e w1 ⟨v, m, rfl, hmm, hma, hb1⟩
  obtain ⟨A0, n0, c0, A1, n1, c1, g2, o2, c2, A3, n3, c3, A4, n4, c4, A5, n5, c5, A6, n6, c6, A7, n7, c7, rfl, hfk⟩ := mod_forms hma hmm
  have HOK := Lib.hid hmm.funs.2
  have hnf := hmm.funs.1
  have HFK := Lib.hid (fun j hj => fun_facts2 hfk HOK.out j hj)
  obtain ⟨nf, hnf'⟩ : ∃ nf, m.funs.length = nf := ⟨_, rfl⟩
  rw [hnf'] at hnf HFK ⊢
  have HB1 := Lib.hid (below_new hb1 (.cells #[.slice A0 n0 c0, .slice A1 n1 c1, .slice (some ⟨g2, o2, none⟩) nf c2, .slice A3 n3 c3, .slice A4 n4 c4, .slice A5 n5 c5, .slice A6 n6 c6, .slice A7 n7 c7] 32))
  have HB12 := Lib.hid ((Below.refl w1.heap.size w1).alloc (Nat.le_refl _) (.cells #[.slice A0 n0 c0, .slice A1 n1 c1, .slice (some ⟨g2, o2, none⟩) nf c2, .slice A3 n3 c3, .slice A4 n4 c4, .slice A5 n5 c5, .slice A6 n6 c6, .slice A7 n7 c7] 32))
  clear hfk hmm hma hb1 hnf' HM HOK
  simp only [Mv.cells]
  go_wp2_with fail
  generalize w1.alloc (.cells #[.slice A0 n0 c0, .slice A1 n1 c1, .slice (some ⟨g2, o2, none⟩) nf c2, .slice A3 n3 c3, .slice A4 n4 c4, .slice A5 n5 c5, .slice A6 n6 c6, .slice A7 n7 c7] 32) = w2 at HB1 HB12 ⊢
  go_loopw [20] (fun i wr => ∃ j : Nat, j ≤ nf ∧ i = .int .i64 (j : Int) ∧ Hid (Below w2.heap.size w2 wr)) (fun i _ => nf - (intOf i).toNat)
  case atStart => exact ⟨0, Nat.zero_le _, rfl, Lib.hid (Below.refl _ _)⟩
  case round =>
    obtain ⟨j, hj, rfl, HB⟩ := hrel
    obtain ⟨w3, rfl⟩ : ∃ w3, w3 = wr := ⟨_, rfl⟩
    by_cases hlt : j < nf
    · have hd0 : decide ((j : Int) < (nf : Int)) = true := by simp; omega
      obtain ⟨d, out, ty, Al, nl, cl, Ac, cc, us, hff, hnw, hgo⟩ := HFK.out j hlt
      have hf3 := hff.below (below_then HB12.out HB.out)
      obtain ⟨k0, k1, k2, hle, hcd, hns, hmp⟩ := hf3
      have HN := Lib.hid hns
      have HMP := Lib.hid hmp
      obtain ⟨out', hmp', hol, hfx⟩ := nested_facts d hns
      obtain rfl : out' = out := by rw [hmp] at hmp'; exact (Prod.mk.inj hmp').1.symm
      have HX := Lib.hid hfx
      have HWR := Lib.hid (matchP_wrap z d HZ2.out hns out' hmp)
      have HGO := Lib.hid hgo
      obtain ⟨nd, hnd⟩ : ∃ nd, d.length = nd := ⟨_, rfl⟩
      rw [hnd] at k2 hle hcd hol HX HWR hnw
      have HND := Lib.hid hnd
      have hb4 := below_new HB.out (.cells #[.int .i64 ty, .slice Al nl cl, .slice Ac (nd + 1) cc] 36)
      have hcd4 := hcd.below ((Below.refl w3.heap.size w3).alloc (Nat.le_refl _) (.cells #[.int .i64 ty, .slice Al nl cl, .slice Ac (nd + 1) cc] 36))
      have hnw4 := news_low hnw (below_then HB12.out hb4)
      have HNW4 := Lib.hid hnw4
      have HOF := Lib.hid (of_any _ Ac (nd + 1) cc (d ++ [11]) hcd4 (by simp [hnd]) (by have := hle.2; omega) hle.1)
      have HCD := Lib.hid hcd4
      have HB4 := Lib.hid hb4
      have hD : ∀ i : Nat, (w3.alloc (.cells #[.int .i64 ty, .slice Al nl cl, .slice Ac (nd + 1) cc] 36)).cell? ⟨w3.heap.size, i, none⟩ = #[Value.int .i64 ty, .slice Al nl cl, .slice Ac (nd + 1) cc][i]? := fun i => World.cell?_alloc_new w3 _ _ i
      have hD2 := hD 2
      simp only [List.getElem?_toArray, List.getElem?_cons_zero, List.getElem?_cons_succ] at hD2
      have HDL : Hid (w3.heap.size < (w3.alloc (.cells #[.int .i64 ty, .slice Al nl cl, .slice Ac (nd + 1) cc] 36)).heap.size) := Lib.hid (by simp)
      have HD2 := Lib.hid hD2
      clear hff hcd hcd4 hns hmp hmp' hfx hnd hb4 hD hD2 hnw hnw4 hgo
      go_upto_region 5 with (fail)
      generalize hG : w3.heap.size = D at *
      clear hG
      generalize w3.alloc (.cells #[.int .i64 ty, .slice Al nl cl, .slice Ac (nd + 1) cc] 36) = w4 at *
      clear k0 k1 k2
      have hD2 := HD2.out
      go_wp2_with fail
      go_at_call 5
      refine HOF.out.mono ?_
      rintro e w5 ⟨v5, rfl, hs5, hb5⟩
      rw [HMP.out] at hs5 ⊢
      simp only at hs5 ⊢
      obtain ⟨A5', c5', rfl, hl5, _⟩ := id hs5
      obtain ⟨L, hL⟩ : ∃ L, out'.length = L := ⟨_, rfl⟩
      rw [hL] at hs5 hl5 hol HX ⊢
      have HL := Lib.hid hL
      have HS5 := Lib.hid hs5
      have HB5 := Lib.hid (below_then HB4.out hb5)
      have HNW5 := Lib.hid (news_low HNW4.out hb5)
      have HD5 := Lib.hid ((hb5.cell (p := ⟨D, 2, none⟩) HDL.out).trans HD2.out)
      have HDL5 : Hid (D < w5.heap.size) := Lib.hid (Nat.lt_of_lt_of_le HDL.out hb5.size)
      clear hs5 hb5 HOF HCD HB4 HMP HD2 HDL hD2 hL HNW4
      go_upto_region 6 with (fail)
      go_cut [10] from 30 to 46 (fun c wx => ∃ A n cc', c = .slice A n cc' ∧ Hid (WrapAt wx A n cc' z (d ++ [11])) ∧ Hid (Below w5.heap.size w5 wx))
      case first =>
        refine Rest.start (X := 17) (S := fun w' => Bel w5.drew w') (by kernel_rfl) ?_
        have HB40 := Lib.hid (below_drewN (Below.refl w5.heap.size w5) 1)
        have HD2 := Lib.hid ((HB40.out.cell (p := ⟨D, 2, none⟩) HDL5.out).trans HD5.out)
        have HDL : Hid (D < w5.drew.heap.size) := HDL5
        have HNW := Lib.hid (fun wz (hb : Below w5.drew.heap.size w5.drew wz) => news_low HNW5.out (below_then HB40.out hb))
        change Hid (Below w5.heap.size w5 w5.drew) at HB40
        change Hid (w5.drew.cell? ⟨D, 2, none⟩ = _) at HD2
        have hR := Rows.nil (Below.refl w5.drew.heap.size w5.drew)
        have hr5 : (r : Int) < 3 := by omega
        have hr6 : (0 : Int) ≤ (r : Int) := by omega
        clear HD5 HDL5 HNW5 HS5 HB5 HX HWR HN
        generalize w5.drew = w4' at hR HD2 HDL HNW HB40 ⊢
        obtain ⟨w4, rfl⟩ : ∃ w4, w4 = w4' := ⟨_, rfl⟩
        show Rest _ _ _ _ _ _ 18 #[false, false, false, false, false, false, false, false, false, false, false, false, false, false, false, false, false, false] _ _
        refine Rest.take (i := 1) (oi := ⟨some 31, _, _, _, _, _⟩) (v := ?_) rfl (by kernel_rfl) (by kernel_rfl) (by kernel_rfl) (by kernel_rfl) (fun _ _ _ h => h) (Or.inl ⟨by rfl, ?_⟩) (hR.bl) ?_
        rotate_left
        · intro w' hSw; have hSb : Below _ _ _ := hSw; go_simp; try with_reducible rfl
        try simp only [Act.put, List.setIfInBounds_toArray, List.set]
        refine Rest.take (i := 2) (oi := ⟨some 32, _, _, _, _, _⟩) (v := ?_) rfl (by kernel_rfl) (by kernel_rfl) (by kernel_rfl) (by kernel_rfl) (fun _ _ _ h => h) (Or.inl ⟨by rfl, ?_⟩) (hR.bl) ?_
        rotate_left
        · intro w' hSw; have hSb : Below _ _ _ := hSw; go_simp; try with_reducible rfl
        try simp only [Act.put, List.setIfInBounds_toArray, List.set]
        refine Rest.take (i := 3) (oi := ⟨some 33, _, _, _, _, _⟩) (v := ?_) rfl (by kernel_rfl) (by kernel_rfl) (by kernel_rfl) (by kernel_rfl) (fun _ _ _ h => h) (Or.inl ⟨by rfl, ?_⟩) (hR.bl) ?_
        rotate_left
        · intro w' hSw; have hSb : Below _ _ _ := hSw; go_simp; try with_reducible rfl
        try simp only [Act.put, List.setIfInBounds_toArray, List.set]
        refine Rest.take (i := 4) (oi := ⟨some 34, _, _, _, _, _⟩) (v := ?_) rfl (by kernel_rfl) (by kernel_rfl) (by kernel_rfl) (by kernel_rfl) (fun _ _ _ h => h) (Or.inl ⟨by rfl, ?_⟩) (hR.bl) ?_
        rotate_left
        · intro w' hSw; have hSb : Below _ _ _ := hSw; go_simp; try with_reducible rfl
        try simp only [Act.put, List.setIfInBounds_toArray, List.set]
        refine Rest.take (i := 10) (oi := ⟨some 40, _, _, _, _, _⟩) (v := ?_) rfl (by kernel_rfl) (by kernel_rfl) (by kernel_rfl) (by kernel_rfl) (fun _ _ _ h => h) (Or.inl ⟨by rfl, ?_⟩) (hR.bl) ?_
        rotate_left
        · intro w' hSw; have hSb : Below _ _ _ := hSw; go_simp; try with_reducible rfl
        try simp only [Act.put, List.setIfInBounds_toArray, List.set]
        refine Rest.take (i := 11) (oi := ⟨some 41, _, _, _, _, _⟩) (v := ?_) rfl (by kernel_rfl) (by kernel_rfl) (by kernel_rfl) (by kernel_rfl) (fun _ _ _ h => h) (Or.inl ⟨by rfl, ?_⟩) (hR.bl) ?_
        rotate_left
        · intro w' hSw; have hSb : Below _ _ _ := hSw; have kc := (hSb.cell (p := ⟨D, 2, none⟩) HDL.out).trans HD2.out; go_simp; try with_reducible rfl
        try simp only [Act.put, List.setIfInBounds_toArray, List.set]
        refine Rest.take (i := 13) (oi := ⟨some 43, _, _, _, _, _⟩) (v := ?_) rfl (by kernel_rfl) (by kernel_rfl) (by kernel_rfl) (by kernel_rfl) (fun _ _ _ h => h) (Or.inl ⟨by rfl, ?_⟩) (hR.bl) ?_
        rotate_left
        · intro w' hSw; have hSb : Below _ _ _ := hSw; go_simp; try with_reducible rfl
        try simp only [Act.put, List.setIfInBounds_toArray, List.set]
        refine Rest.three (i := 0) (j := 9) (l := 14) (by kernel_rfl) ?_ ?_ ?_
        · skip
          refine Comes.mk (o := ⟨some 30, _, _, _, _, _⟩) rfl (fun K hK => ?_)
          go_simp
          replace hR := hR.lit 3 1 3 #[.int .i64 2, .int .i64 3, .int .i64 4] rfl (by decide)
          refine hK.out _ _ (.inr (hR.bl)) ?_
          clear hK K
          try simp only [List.setIfInBounds_toArray, List.set]
          generalize hy1 : w4.heap.size = y1 at hR ⊢
          generalize (w4.alloc (.cells #[.int .i64 2, .int .i64 3, .int .i64 4] 3)) = x1 at hR ⊢
          clear hy1
          refine Rest.strong (S' := fun w' => Bel w4 w' ∧ w'.cell? ⟨y1, r, none⟩ = some (.int .i64 z)) (fun _ h => h.1) _ _ _ _ ?_
          refine Rest.take (i := 5) (oi := ⟨some 35, _, _, _, _, _⟩) (v := ?_) rfl (by kernel_rfl) (by kernel_rfl) (by kernel_rfl) (by kernel_rfl) (fun _ _ _ h => h) (Or.inl ⟨by rfl, ?_⟩) (⟨hR.bl, (hR.ow _ (List.mem_cons_self ..)).cells' (c := 3) (by rfl) rfl r _ HZ.out⟩) ?_
          rotate_left
          · intro w' hSw; obtain ⟨hSb', hSp⟩ := hSw; have hSb : Below _ _ _ := hSb'; go_simp; try with_reducible rfl
          try simp only [Act.put, List.setIfInBounds_toArray, List.set]
          refine Rest.take (i := 6) (oi := ⟨some 36, _, _, _, _, _⟩) (v := ?_) rfl (by kernel_rfl) (by kernel_rfl) (by kernel_rfl) (by kernel_rfl) (fun _ _ _ h => h) (Or.inl ⟨by rfl, ?_⟩) (⟨hR.bl, (hR.ow _ (List.mem_cons_self ..)).cells' (c := 3) (by rfl) rfl r _ HZ.out⟩) ?_
          rotate_left
          · intro w' hSw; obtain ⟨hSb', hSp⟩ := hSw; have hSb : Below _ _ _ := hSb'; go_simp; try with_reducible rfl
          try simp only [Act.put, List.setIfInBounds_toArray, List.set]
          refine Rest.take (i := 7) (oi := ⟨some 37, _, _, _, _, _⟩) (v := ?_) rfl (by kernel_rfl) (by kernel_rfl) (by kernel_rfl) (by kernel_rfl) (fun _ _ _ h => h) (Or.inl ⟨by rfl, ?_⟩) (⟨hR.bl, (hR.ow _ (List.mem_cons_self ..)).cells' (c := 3) (by rfl) rfl r _ HZ.out⟩) ?_
          rotate_left
          · intro w' hSw; obtain ⟨hSb', hSp⟩ := hSw; have hSb : Below _ _ _ := hSb'; go_simp; try with_reducible rfl
          try simp only [Act.put, List.setIfInBounds_toArray, List.set]
          refine Rest.three (i := 8) (j := 9) (l := 14) (by kernel_rfl) ?_ ?_ ?_
          · skip
            refine Comes.mk (o := ⟨some 38, _, _, _, _, _⟩) rfl (fun K hK => ?_)
            go_simp
            replace hR := hR.lit 43 5 1 #[.int .i64 z, .int .i64 (-1), .int .i64 0, .int .u64 0, .slice none 0 0] rfl (by decide)
            refine hK.out _ _ (.inr (⟨hR.bl, (hR.ow _ (List.mem_cons_of_mem _ (List.mem_cons_self ..))).cells' (c := 3) (by rfl) rfl r _ HZ.out⟩)) ?_
            clear hK K
            try simp only [List.setIfInBounds_toArray, List.set]
            generalize hy2 : x1.heap.size = y2 at hR ⊢
            generalize (x1.alloc (.cells #[.int .i64 z, .int .i64 (-1), .int .i64 0, .int .u64 0, .slice none 0 0] 43)) = x2 at hR ⊢
            clear hy2
            refine Rest.two (i := 9) (j := 14) (by kernel_rfl) ?_ ?_
            · skip
              refine Comes.mk (o := ⟨some 39, _, _, _, _, _⟩) rfl (fun K hK => ?_)
              go_simp
              replace hR := hR.lit 43 5 0 #[] rfl (by decide)
              refine hK.out _ _ (.inr (⟨hR.bl, (hR.ow _ (List.mem_cons_of_mem _ (List.mem_cons_of_mem _ (List.mem_cons_self ..)))).cells' (c := 3) (by rfl) rfl r _ HZ.out⟩)) ?_
              clear hK K
              try simp only [List.setIfInBounds_toArray, List.set]
              generalize hy3 : x2.heap.size = y3 at hR ⊢
              generalize (x2.alloc (.cells #[] 43)) = x3 at hR ⊢
              clear hy3
              refine Rest.two (i := 12) (j := 14) (by kernel_rfl) ?_ ?_
              · skip
                refine Comes.mk (o := ⟨some 42, _, _, _, _, _⟩) rfl (fun K hK => ?_)
                refine step_append_row rfl (.tmp 39) (.tmp 41) 34 43 rfl _ 5 56 Try.underlying34 Try.infoInst5 rfl (by decide) (by decide) (.slice (some ⟨y3, 0, none⟩) 0 0) 0 [] (by rfl) hR.head (.slice Ac (nd + 1) cc) (nd + 1) us (by rfl) (by rw [HGO.out.1, List.length_append, HND.out]; rfl) (HNW.out _ hR.bl) HGO.out.ones (by omega) ?_
                intro v4 x4 ho4 hg4 hat4
                simp only [Nat.zero_add, List.nil_append] at ho4
                replace hR := hR.grow hg4 ho4 hat4
                obtain ⟨A4, c4, rfl⟩ := owns_slice ho4
                clear ho4 hg4 hat4
                refine hK.out _ _ (.inr (⟨hR.bl, (hR.ow _ (List.mem_cons_of_mem _ (List.mem_cons_of_mem _ (List.mem_cons_self ..)))).cells' (c := 3) (by rfl) rfl r _ HZ.out⟩)) ?_
                clear hK K
                try simp only [Act.put, List.setIfInBounds_toArray, List.set]
                refine Rest.one (i := 14) (by kernel_rfl) ?_
                refine Comes.mk (o := ⟨some 44, _, _, _, _, _⟩) rfl (fun K hK => ?_)
                go_simp
                replace hR := hR.lit 43 5 1 #[.int .i64 11, .int .i64 0, .int .i64 0, .int .u64 0, .slice none 0 0] rfl (by decide)
                refine hK.out _ _ (.inr (⟨hR.bl, (hR.ow _ (List.mem_cons_of_mem _ (List.mem_cons_of_mem _ (List.mem_cons_of_mem _ (List.mem_cons_self ..))))).cells' (c := 3) (by rfl) rfl r _ HZ.out⟩)) ?_
                clear hK K
                try simp only [List.setIfInBounds_toArray, List.set]
                generalize hy5 : x4.heap.size = y5 at hR ⊢
                generalize (x4.alloc (.cells #[.int .i64 11, .int .i64 0, .int .i64 0, .int .u64 0, .slice none 0 0] 43)) = x5 at hR ⊢
                clear hy5
                refine Rest.one (i := 15) (by kernel_rfl) ?_
                refine Comes.mk (o := ⟨some 45, _, _, _, _, _⟩) rfl (fun K hK => ?_)
                replace hR := hR.swap
                refine step_append_row rfl (.tmp 42) (.tmp 44) 34 43 rfl _ 5 56 Try.underlying34 Try.infoInst5 rfl (by decide) (by decide) (.slice A4 (nd + 1) c4) (nd + 1) us (by rfl) hR.head (.slice (some ⟨y5, 0, none⟩) 1 1) 1 [.int .i64 11, .int .i64 0, .int .i64 0, .int .u64 0, .slice none 0 0] (by rfl) (by rfl) (owns_news ((hR.ow _ (List.mem_cons_of_mem _ (List.mem_cons_self ..))).own rfl)) (by simp [Value.oneCell']) (by omega) ?_
                intro v6 x6 ho6 hg6 hat6
                replace hR := hR.grow hg6 ho6 hat6
                obtain ⟨A6, c6, rfl⟩ := owns_slice ho6
                clear ho6 hg6 hat6
                refine hK.out _ _ (.inr (⟨hR.bl, (hR.ow _ (List.mem_cons_of_mem _ (List.mem_cons_of_mem _ (List.mem_cons_of_mem _ (List.mem_cons_self ..))))).cells' (c := 3) (by rfl) rfl r _ HZ.out⟩)) ?_
                clear hK K
                try simp only [Act.put, List.setIfInBounds_toArray, List.set]
                refine Rest.one (i := 16) (by kernel_rfl) ?_
                refine Comes.mk (o := ⟨some 46, _, _, _, _, _⟩) rfl (fun K hK => ?_)
                replace hR := hR.pull3
                refine step_append_row rfl (.tmp 38) (.tmp 45) 34 43 rfl _ 5 56 Try.underlying34 Try.infoInst5 rfl (by decide) (by decide) (.slice (some ⟨y2, 0, none⟩) 1 1) 1 [.int .i64 z, .int .i64 (-1), .int .i64 0, .int .u64 0, .slice none 0 0] (by rfl) hR.head (.slice A6 ((nd + 1) + 1) c6) (nd + 1 + 1) (us ++ [.int .i64 11, .int .i64 0, .int .i64 0, .int .u64 0, .slice none 0 0]) (by rfl) (by rw [List.length_append, HGO.out.1, List.length_append, HND.out]; simp only [List.length_cons, List.length_nil]; omega) (owns_news ((hR.ow _ (List.mem_cons_of_mem _ (List.mem_cons_self ..))).own rfl)) (by intro u hu; rcases List.mem_append.1 hu with h | h; (· exact HGO.out.ones u h); (· exact ones11 u h)) (by omega) ?_
                intro v7 x7 ho7 hg7 hat7
                replace hR := hR.grow hg7 ho7 hat7
                obtain ⟨A7, c7, rfl⟩ := owns_slice ho7
                clear ho7 hg7 hat7
                refine hK.out _ _ (.inr (⟨hR.bl, (hR.ow _ (List.mem_cons_of_mem _ (List.mem_cons_of_mem _ (List.mem_cons_of_mem _ (List.mem_cons_self ..))))).cells' (c := 3) (by rfl) rfl r _ HZ.out⟩)) ?_
                clear hK K
                try simp only [Act.put, List.setIfInBounds_toArray, List.set]
                refine Rest.one (i := 17) (by kernel_rfl) ?_
                refine Comes.mk (o := ⟨some 10, _, _, _, _, _⟩) rfl (fun K hK => ?_)
                go_simp
                refine hK.out _ _ (.inl rfl) ?_
                clear hK K
                refine Rest.done (by kernel_rfl) ?_ _
                go_wp2
                go_meet
                exact ⟨_, _, _, by first | rfl | (congr 1; omega), Lib.hid (wraps_row hR.head HGO.out), Lib.hid (HB40.out.trans (hR.bl.mono HB40.out.size))⟩
              · skip
                refine Comes.mk (o := ⟨some 44, _, _, _, _, _⟩) rfl (fun K hK => ?_)
                go_simp
                replace hR := hR.lit 43 5 1 #[.int .i64 11, .int .i64 0, .int .i64 0, .int .u64 0, .slice none 0 0] rfl (by decide)
                refine hK.out _ _ (.inr (⟨hR.bl, (hR.ow _ (List.mem_cons_of_mem _ (List.mem_cons_of_mem _ (List.mem_cons_of_mem _ (List.mem_cons_self ..))))).cells' (c := 3) (by rfl) rfl r _ HZ.out⟩)) ?_
                clear hK K
                try simp only [List.setIfInBounds_toArray, List.set]
                generalize hy8 : x3.heap.size = y8 at hR ⊢
                generalize (x3.alloc (.cells #[.int .i64 11, .int .i64 0, .int .i64 0, .int .u64 0, .slice none 0 0] 43)) = x8 at hR ⊢
                clear hy8
                refine Rest.one (i := 12) (by kernel_rfl) ?_
                refine Comes.mk (o := ⟨some 42, _, _, _, _, _⟩) rfl (fun K hK => ?_)
                replace hR := hR.swap
                refine step_append_row rfl (.tmp 39) (.tmp 41) 34 43 rfl _ 5 56 Try.underlying34 Try.infoInst5 rfl (by decide) (by decide) (.slice (some ⟨y3, 0, none⟩) 0 0) 0 [] (by rfl) hR.head (.slice Ac (nd + 1) cc) (nd + 1) us (by rfl) (by rw [HGO.out.1, List.length_append, HND.out]; rfl) (HNW.out _ hR.bl) HGO.out.ones (by omega) ?_
                intro v9 x9 ho9 hg9 hat9
                simp only [Nat.zero_add, List.nil_append] at ho9
                replace hR := hR.grow hg9 ho9 hat9
                obtain ⟨A9, c9, rfl⟩ := owns_slice ho9
                clear ho9 hg9 hat9
                refine hK.out _ _ (.inr (⟨hR.bl, (hR.ow _ (List.mem_cons_of_mem _ (List.mem_cons_of_mem _ (List.mem_cons_of_mem _ (List.mem_cons_self ..))))).cells' (c := 3) (by rfl) rfl r _ HZ.out⟩)) ?_
                clear hK K
                try simp only [Act.put, List.setIfInBounds_toArray, List.set]
                refine Rest.one (i := 15) (by kernel_rfl) ?_
                refine Comes.mk (o := ⟨some 45, _, _, _, _, _⟩) rfl (fun K hK => ?_)
                refine step_append_row rfl (.tmp 42) (.tmp 44) 34 43 rfl _ 5 56 Try.underlying34 Try.infoInst5 rfl (by decide) (by decide) (.slice A9 (nd + 1) c9) (nd + 1) us (by rfl) hR.head (.slice (some ⟨y8, 0, none⟩) 1 1) 1 [.int .i64 11, .int .i64 0, .int .i64 0, .int .u64 0, .slice none 0 0] (by rfl) (by rfl) (owns_news ((hR.ow _ (List.mem_cons_of_mem _ (List.mem_cons_self ..))).own rfl)) (by simp [Value.oneCell']) (by omega) ?_
                intro v10 x10 ho10 hg10 hat10
                replace hR := hR.grow hg10 ho10 hat10
                obtain ⟨A10, c10, rfl⟩ := owns_slice ho10
                clear ho10 hg10 hat10
                refine hK.out _ _ (.inr (⟨hR.bl, (hR.ow _ (List.mem_cons_of_mem _ (List.mem_cons_of_mem _ (List.mem_cons_of_mem _ (List.mem_cons_self ..))))).cells' (c := 3) (by rfl) rfl r _ HZ.out⟩)) ?_
                clear hK K
                try simp only [Act.put, List.setIfInBounds_toArray, List.set]
                refine Rest.one (i := 16) (by kernel_rfl) ?_
                refine Comes.mk (o := ⟨some 46, _, _, _, _, _⟩) rfl (fun K hK => ?_)
                replace hR := hR.pull3
                refine step_append_row rfl (.tmp 38) (.tmp 45) 34 43 rfl _ 5 56 Try.underlying34 Try.infoInst5 rfl (by decide) (by decide) (.slice (some ⟨y2, 0, none⟩) 1 1) 1 [.int .i64 z, .int .i64 (-1), .int .i64 0, .int .u64 0, .slice none 0 0] (by rfl) hR.head (.slice A10 ((nd + 1) + 1) c10) (nd + 1 + 1) (us ++ [.int .i64 11, .int .i64 0, .int .i64 0, .int .u64 0, .slice none 0 0]) (by rfl) (by rw [List.length_append, HGO.out.1, List.length_append, HND.out]; simp only [List.length_cons, List.length_nil]; omega) (owns_news ((hR.ow _ (List.mem_cons_of_mem _ (List.mem_cons_self ..))).own rfl)) (by intro u hu; rcases List.mem_append.1 hu with h | h; (· exact HGO.out.ones u h); (· exact ones11 u h)) (by omega) ?_
                intro v11 x11 ho11 hg11 hat11
                replace hR := hR.grow hg11 ho11 hat11
                obtain ⟨A11, c11, rfl⟩ := owns_slice ho11
                clear ho11 hg11 hat11
                refine hK.out _ _ (.inr (⟨hR.bl, (hR.ow _ (List.mem_cons_of_mem _ (List.mem_cons_of_mem _ (List.mem_cons_of_mem _ (List.mem_cons_self ..))))).cells' (c := 3) (by rfl) rfl r _ HZ.out⟩)) ?_
                clear hK K
                try simp only [Act.put, List.setIfInBounds_toArray, List.set]
                refine Rest.one (i := 17) (by kernel_rfl) ?_
                refine Comes.mk (o := ⟨some 10, _, _, _, _, _⟩) rfl (fun K hK => ?_)
                go_simp
                refine hK.out _ _ (.inl rfl) ?_
                clear hK K
                refine Rest.done (by kernel_rfl) ?_ _
                go_wp2
                go_meet
                exact ⟨_, _, _, by first | rfl | (congr 1; omega), Lib.hid (wraps_row hR.head HGO.out), Lib.hid (HB40.out.trans (hR.bl.mono HB40.out.size))⟩
            · skip
              refine Comes.mk (o := ⟨some 44, _, _, _, _, _⟩) rfl (fun K hK => ?_)
              go_simp
              replace hR := hR.lit 43 5 1 #[.int .i64 11, .int .i64 0, .int .i64 0, .int .u64 0, .slice none 0 0] rfl (by decide)
              refine hK.out _ _ (.inr (⟨hR.bl, (hR.ow _ (List.mem_cons_of_mem _ (List.mem_cons_of_mem _ (List.mem_cons_self ..)))).cells' (c := 3) (by rfl) rfl r _ HZ.out⟩)) ?_
              clear hK K
              try simp only [List.setIfInBounds_toArray, List.set]
              generalize hy12 : x2.heap.size = y12 at hR ⊢
              generalize (x2.alloc (.cells #[.int .i64 11, .int .i64 0, .int .i64 0, .int .u64 0, .slice none 0 0] 43)) = x12 at hR ⊢
              clear hy12
              refine Rest.one (i := 9) (by kernel_rfl) ?_
              refine Comes.mk (o := ⟨some 39, _, _, _, _, _⟩) rfl (fun K hK => ?_)
              go_simp
              replace hR := hR.lit 43 5 0 #[] rfl (by decide)
              refine hK.out _ _ (.inr (⟨hR.bl, (hR.ow _ (List.mem_cons_of_mem _ (List.mem_cons_of_mem _ (List.mem_cons_of_mem _ (List.mem_cons_self ..))))).cells' (c := 3) (by rfl) rfl r _ HZ.out⟩)) ?_
              clear hK K
              try simp only [List.setIfInBounds_toArray, List.set]
              generalize hy13 : x12.heap.size = y13 at hR ⊢
              generalize (x12.alloc (.cells #[] 43)) = x13 at hR ⊢
              clear hy13
              refine Rest.one (i := 12) (by kernel_rfl) ?_
              refine Comes.mk (o := ⟨some 42, _, _, _, _, _⟩) rfl (fun K hK => ?_)
              refine step_append_row rfl (.tmp 39) (.tmp 41) 34 43 rfl _ 5 56 Try.underlying34 Try.infoInst5 rfl (by decide) (by decide) (.slice (some ⟨y13, 0, none⟩) 0 0) 0 [] (by rfl) hR.head (.slice Ac (nd + 1) cc) (nd + 1) us (by rfl) (by rw [HGO.out.1, List.length_append, HND.out]; rfl) (HNW.out _ hR.bl) HGO.out.ones (by omega) ?_
              intro v14 x14 ho14 hg14 hat14
              simp only [Nat.zero_add, List.nil_append] at ho14
              replace hR := hR.grow hg14 ho14 hat14
              obtain ⟨A14, c14, rfl⟩ := owns_slice ho14
              clear ho14 hg14 hat14
              refine hK.out _ _ (.inr (⟨hR.bl, (hR.ow _ (List.mem_cons_of_mem _ (List.mem_cons_of_mem _ (List.mem_cons_of_mem _ (List.mem_cons_self ..))))).cells' (c := 3) (by rfl) rfl r _ HZ.out⟩)) ?_
              clear hK K
              try simp only [Act.put, List.setIfInBounds_toArray, List.set]
              refine Rest.one (i := 15) (by kernel_rfl) ?_
              refine Comes.mk (o := ⟨some 45, _, _, _, _, _⟩) rfl (fun K hK => ?_)
              refine step_append_row rfl (.tmp 42) (.tmp 44) 34 43 rfl _ 5 56 Try.underlying34 Try.infoInst5 rfl (by decide) (by decide) (.slice A14 (nd + 1) c14) (nd + 1) us (by rfl) hR.head (.slice (some ⟨y12, 0, none⟩) 1 1) 1 [.int .i64 11, .int .i64 0, .int .i64 0, .int .u64 0, .slice none 0 0] (by rfl) (by rfl) (owns_news ((hR.ow _ (List.mem_cons_of_mem _ (List.mem_cons_self ..))).own rfl)) (by simp [Value.oneCell']) (by omega) ?_
              intro v15 x15 ho15 hg15 hat15
              replace hR := hR.grow hg15 ho15 hat15
              obtain ⟨A15, c15, rfl⟩ := owns_slice ho15
              clear ho15 hg15 hat15
              refine hK.out _ _ (.inr (⟨hR.bl, (hR.ow _ (List.mem_cons_of_mem _ (List.mem_cons_of_mem _ (List.mem_cons_of_mem _ (List.mem_cons_self ..))))).cells' (c := 3) (by rfl) rfl r _ HZ.out⟩)) ?_
              clear hK K
              try simp only [Act.put, List.setIfInBounds_toArray, List.set]
              refine Rest.one (i := 16) (by kernel_rfl) ?_
              refine Comes.mk (o := ⟨some 46, _, _, _, _, _⟩) rfl (fun K hK => ?_)
              replace hR := hR.pull3
              refine step_append_row rfl (.tmp 38) (.tmp 45) 34 43 rfl _ 5 56 Try.underlying34 Try.infoInst5 rfl (by decide) (by decide) (.slice (some ⟨y2, 0, none⟩) 1 1) 1 [.int .i64 z, .int .i64 (-1), .int .i64 0, .int .u64 0, .slice none 0 0] (by rfl) hR.head (.slice A15 ((nd + 1) + 1) c15) (nd + 1 + 1) (us ++ [.int .i64 11, .int .i64 0, .int .i64 0, .int .u64 0, .slice none 0 0]) (by rfl) (by rw [List.length_append, HGO.out.1, List.length_append, HND.out]; simp only [List.length_cons, List.length_nil]; omega) (owns_news ((hR.ow _ (List.mem_cons_of_mem _ (List.mem_cons_self ..))).own rfl)) (by intro u hu; rcases List.mem_append.1 hu with h | h; (· exact HGO.out.ones u h); (· exact ones11 u h)) (by omega) ?_
              intro v16 x16 ho16 hg16 hat16
              replace hR := hR.grow hg16 ho16 hat16
              obtain ⟨A16, c16, rfl⟩ := owns_slice ho16
              clear ho16 hg16 hat16
              refine hK.out _ _ (.inr (⟨hR.bl, (hR.ow _ (List.mem_cons_of_mem _ (List.mem_cons_of_mem _ (List.mem_cons_of_mem _ (List.mem_cons_self ..))))).cells' (c := 3) (by rfl) rfl r _ HZ.out⟩)) ?_
              clear hK K
              try simp only [Act.put, List.setIfInBounds_toArray, List.set]
              refine Rest.one (i := 17) (by kernel_rfl) ?_
              refine Comes.mk (o := ⟨some 10, _, _, _, _, _⟩) rfl (fun K hK => ?_)
              go_simp
              refine hK.out _ _ (.inl rfl) ?_
              clear hK K
              refine Rest.done (by kernel_rfl) ?_ _
              go_wp2
              go_meet
              exact ⟨_, _, _, by first | rfl | (congr 1; omega), Lib.hid (wraps_row hR.head HGO.out), Lib.hid (HB40.out.trans (hR.bl.mono HB40.out.size))⟩
          · skip
            refine Comes.mk (o := ⟨some 39, _, _, _, _, _⟩) rfl (fun K hK => ?_)
            go_simp
            replace hR := hR.lit 43 5 0 #[] rfl (by decide)
            refine hK.out _ _ (.inr (⟨hR.bl, (hR.ow _ (List.mem_cons_of_mem _ (List.mem_cons_self ..))).cells' (c := 3) (by rfl) rfl r _ HZ.out⟩)) ?_
            clear hK K
            try simp only [List.setIfInBounds_toArray, List.set]
            generalize hy17 : x1.heap.size = y17 at hR ⊢
            generalize (x1.alloc (.cells #[] 43)) = x17 at hR ⊢
            clear hy17
            refine Rest.three (i := 8) (j := 12) (l := 14) (by kernel_rfl) ?_ ?_ ?_
            · skip
              refine Comes.mk (o := ⟨some 38, _, _, _, _, _⟩) rfl (fun K hK => ?_)
              go_simp
              replace hR := hR.lit 43 5 1 #[.int .i64 z, .int .i64 (-1), .int .i64 0, .int .u64 0, .slice none 0 0] rfl (by decide)
              refine hK.out _ _ (.inr (⟨hR.bl, (hR.ow _ (List.mem_cons_of_mem _ (List.mem_cons_of_mem _ (List.mem_cons_self ..)))).cells' (c := 3) (by rfl) rfl r _ HZ.out⟩)) ?_
              clear hK K
              try simp only [List.setIfInBounds_toArray, List.set]
              generalize hy18 : x17.heap.size = y18 at hR ⊢
              generalize (x17.alloc (.cells #[.int .i64 z, .int .i64 (-1), .int .i64 0, .int .u64 0, .slice none 0 0] 43)) = x18 at hR ⊢
              clear hy18
              refine Rest.two (i := 12) (j := 14) (by kernel_rfl) ?_ ?_
              · skip
                refine Comes.mk (o := ⟨some 42, _, _, _, _, _⟩) rfl (fun K hK => ?_)
                replace hR := hR.swap
                refine step_append_row rfl (.tmp 39) (.tmp 41) 34 43 rfl _ 5 56 Try.underlying34 Try.infoInst5 rfl (by decide) (by decide) (.slice (some ⟨y17, 0, none⟩) 0 0) 0 [] (by rfl) hR.head (.slice Ac (nd + 1) cc) (nd + 1) us (by rfl) (by rw [HGO.out.1, List.length_append, HND.out]; rfl) (HNW.out _ hR.bl) HGO.out.ones (by omega) ?_
                intro v19 x19 ho19 hg19 hat19
                simp only [Nat.zero_add, List.nil_append] at ho19
                replace hR := hR.grow hg19 ho19 hat19
                obtain ⟨A19, c19, rfl⟩ := owns_slice ho19
                clear ho19 hg19 hat19
                refine hK.out _ _ (.inr (⟨hR.bl, (hR.ow _ (List.mem_cons_of_mem _ (List.mem_cons_of_mem _ (List.mem_cons_self ..)))).cells' (c := 3) (by rfl) rfl r _ HZ.out⟩)) ?_
                clear hK K
                try simp only [Act.put, List.setIfInBounds_toArray, List.set]
                refine Rest.one (i := 14) (by kernel_rfl) ?_
                refine Comes.mk (o := ⟨some 44, _, _, _, _, _⟩) rfl (fun K hK => ?_)
                go_simp
                replace hR := hR.lit 43 5 1 #[.int .i64 11, .int .i64 0, .int .i64 0, .int .u64 0, .slice none 0 0] rfl (by decide)
                refine hK.out _ _ (.inr (⟨hR.bl, (hR.ow _ (List.mem_cons_of_mem _ (List.mem_cons_of_mem _ (List.mem_cons_of_mem _ (List.mem_cons_self ..))))).cells' (c := 3) (by rfl) rfl r _ HZ.out⟩)) ?_
                clear hK K
                try simp only [List.setIfInBounds_toArray, List.set]
                generalize hy20 : x19.heap.size = y20 at hR ⊢
                generalize (x19.alloc (.cells #[.int .i64 11, .int .i64 0, .int .i64 0, .int .u64 0, .slice none 0 0] 43)) = x20 at hR ⊢
                clear hy20
                refine Rest.one (i := 15) (by kernel_rfl) ?_
                refine Comes.mk (o := ⟨some 45, _, _, _, _, _⟩) rfl (fun K hK => ?_)
                replace hR := hR.swap
                refine step_append_row rfl (.tmp 42) (.tmp 44) 34 43 rfl _ 5 56 Try.underlying34 Try.infoInst5 rfl (by decide) (by decide) (.slice A19 (nd + 1) c19) (nd + 1) us (by rfl) hR.head (.slice (some ⟨y20, 0, none⟩) 1 1) 1 [.int .i64 11, .int .i64 0, .int .i64 0, .int .u64 0, .slice none 0 0] (by rfl) (by rfl) (owns_news ((hR.ow _ (List.mem_cons_of_mem _ (List.mem_cons_self ..))).own rfl)) (by simp [Value.oneCell']) (by omega) ?_
                intro v21 x21 ho21 hg21 hat21
                replace hR := hR.grow hg21 ho21 hat21
                obtain ⟨A21, c21, rfl⟩ := owns_slice ho21
                clear ho21 hg21 hat21
                refine hK.out _ _ (.inr (⟨hR.bl, (hR.ow _ (List.mem_cons_of_mem _ (List.mem_cons_of_mem _ (List.mem_cons_of_mem _ (List.mem_cons_self ..))))).cells' (c := 3) (by rfl) rfl r _ HZ.out⟩)) ?_
                clear hK K
                try simp only [Act.put, List.setIfInBounds_toArray, List.set]
                refine Rest.one (i := 16) (by kernel_rfl) ?_
                refine Comes.mk (o := ⟨some 46, _, _, _, _, _⟩) rfl (fun K hK => ?_)
                replace hR := hR.pull3
                refine step_append_row rfl (.tmp 38) (.tmp 45) 34 43 rfl _ 5 56 Try.underlying34 Try.infoInst5 rfl (by decide) (by decide) (.slice (some ⟨y18, 0, none⟩) 1 1) 1 [.int .i64 z, .int .i64 (-1), .int .i64 0, .int .u64 0, .slice none 0 0] (by rfl) hR.head (.slice A21 ((nd + 1) + 1) c21) (nd + 1 + 1) (us ++ [.int .i64 11, .int .i64 0, .int .i64 0, .int .u64 0, .slice none 0 0]) (by rfl) (by rw [List.length_append, HGO.out.1, List.length_append, HND.out]; simp only [List.length_cons, List.length_nil]; omega) (owns_news ((hR.ow _ (List.mem_cons_of_mem _ (List.mem_cons_self ..))).own rfl)) (by intro u hu; rcases List.mem_append.1 hu with h | h; (· exact HGO.out.ones u h); (· exact ones11 u h)) (by omega) ?_
                intro v22 x22 ho22 hg22 hat22
                replace hR := hR.grow hg22 ho22 hat22
                obtain ⟨A22, c22, rfl⟩ := owns_slice ho22
                clear ho22 hg22 hat22
                refine hK.out _ _ (.inr (⟨hR.bl, (hR.ow _ (List.mem_cons_of_mem _ (List.mem_cons_of_mem _ (List.mem_cons_of_mem _ (List.mem_cons_self ..))))).cells' (c := 3) (by rfl) rfl r _ HZ.out⟩)) ?_
                clear hK K
                try simp only [Act.put, List.setIfInBounds_toArray, List.set]
                refine Rest.one (i := 17) (by kernel_rfl) ?_
                refine Comes.mk (o := ⟨some 10, _, _, _, _, _⟩) rfl (fun K hK => ?_)
                go_simp
                refine hK.out _ _ (.inl rfl) ?_
                clear hK K
                refine Rest.done (by kernel_rfl) ?_ _
                go_wp2
                go_meet
                exact ⟨_, _, _, by first | rfl | (congr 1; omega), Lib.hid (wraps_row hR.head HGO.out), Lib.hid (HB40.out.trans (hR.bl.mono HB40.out.size))⟩
              · skip
                refine Comes.mk (o := ⟨some 44, _, _, _, _, _⟩) rfl (fun K hK => ?_)
                go_simp
                replace hR := hR.lit 43 5 1 #[.int .i64 11, .int .i64 0, .int .i64 0, .int .u64 0, .slice none 0 0] rfl (by decide)
                refine hK.out _ _ (.inr (⟨hR.bl, (hR.ow _ (List.mem_cons_of_mem _ (List.mem_cons_of_mem _ (List.mem_cons_of_mem _ (List.mem_cons_self ..))))).cells' (c := 3) (by rfl) rfl r _ HZ.out⟩)) ?_
                clear hK K
                try simp only [List.setIfInBounds_toArray, List.set]
                generalize hy23 : x18.heap.size = y23 at hR ⊢
                generalize (x18.alloc (.cells #[.int .i64 11, .int .i64 0, .int .i64 0, .int .u64 0, .slice none 0 0] 43)) = x23 at hR ⊢
                clear hy23
                refine Rest.one (i := 12) (by kernel_rfl) ?_
                refine Comes.mk (o := ⟨some 42, _, _, _, _, _⟩) rfl (fun K hK => ?_)
                replace hR := hR.pull3
                refine step_append_row rfl (.tmp 39) (.tmp 41) 34 43 rfl _ 5 56 Try.underlying34 Try.infoInst5 rfl (by decide) (by decide) (.slice (some ⟨y17, 0, none⟩) 0 0) 0 [] (by rfl) hR.head (.slice Ac (nd + 1) cc) (nd + 1) us (by rfl) (by rw [HGO.out.1, List.length_append, HND.out]; rfl) (HNW.out _ hR.bl) HGO.out.ones (by omega) ?_
                intro v24 x24 ho24 hg24 hat24
                simp only [Nat.zero_add, List.nil_append] at ho24
                replace hR := hR.grow hg24 ho24 hat24
                obtain ⟨A24, c24, rfl⟩ := owns_slice ho24
                clear ho24 hg24 hat24
                refine hK.out _ _ (.inr (⟨hR.bl, (hR.ow _ (List.mem_cons_of_mem _ (List.mem_cons_of_mem _ (List.mem_cons_of_mem _ (List.mem_cons_self ..))))).cells' (c := 3) (by rfl) rfl r _ HZ.out⟩)) ?_
                clear hK K
                try simp only [Act.put, List.setIfInBounds_toArray, List.set]
                refine Rest.one (i := 15) (by kernel_rfl) ?_
                refine Comes.mk (o := ⟨some 45, _, _, _, _, _⟩) rfl (fun K hK => ?_)
                refine step_append_row rfl (.tmp 42) (.tmp 44) 34 43 rfl _ 5 56 Try.underlying34 Try.infoInst5 rfl (by decide) (by decide) (.slice A24 (nd + 1) c24) (nd + 1) us (by rfl) hR.head (.slice (some ⟨y23, 0, none⟩) 1 1) 1 [.int .i64 11, .int .i64 0, .int .i64 0, .int .u64 0, .slice none 0 0] (by rfl) (by rfl) (owns_news ((hR.ow _ (List.mem_cons_of_mem _ (List.mem_cons_self ..))).own rfl)) (by simp [Value.oneCell']) (by omega) ?_
                intro v25 x25 ho25 hg25 hat25
                replace hR := hR.grow hg25 ho25 hat25
                obtain ⟨A25, c25, rfl⟩ := owns_slice ho25
                clear ho25 hg25 hat25
                refine hK.out _ _ (.inr (⟨hR.bl, (hR.ow _ (List.mem_cons_of_mem _ (List.mem_cons_of_mem _ (List.mem_cons_of_mem _ (List.mem_cons_self ..))))).cells' (c := 3) (by rfl) rfl r _ HZ.out⟩)) ?_
                clear hK K
                try simp only [Act.put, List.setIfInBounds_toArray, List.set]
                refine Rest.one (i := 16) (by kernel_rfl) ?_
                refine Comes.mk (o := ⟨some 46, _, _, _, _, _⟩) rfl (fun K hK => ?_)
                replace hR := hR.pull3
                refine step_append_row rfl (.tmp 38) (.tmp 45) 34 43 rfl _ 5 56 Try.underlying34 Try.infoInst5 rfl (by decide) (by decide) (.slice (some ⟨y18, 0, none⟩) 1 1) 1 [.int .i64 z, .int .i64 (-1), .int .i64 0, .int .u64 0, .slice none 0 0] (by rfl) hR.head (.slice A25 ((nd + 1) + 1) c25) (nd + 1 + 1) (us ++ [.int .i64 11, .int .i64 0, .int .i64 0, .int .u64 0, .slice none 0 0]) (by rfl) (by rw [List.length_append, HGO.out.1, List.length_append, HND.out]; simp only [List.length_cons, List.length_nil]; omega) (owns_news ((hR.ow _ (List.mem_cons_of_mem _ (List.mem_cons_self ..))).own rfl)) (by intro u hu; rcases List.mem_append.1 hu with h | h; (· exact HGO.out.ones u h); (· exact ones11 u h)) (by omega) ?_
                intro v26 x26 ho26 hg26 hat26
                replace hR := hR.grow hg26 ho26 hat26
                obtain ⟨A26, c26, rfl⟩ := owns_slice ho26
                clear ho26 hg26 hat26
                refine hK.out _ _ (.inr (⟨hR.bl, (hR.ow _ (List.mem_cons_of_mem _ (List.mem_cons_of_mem _ (List.mem_cons_of_mem _ (List.mem_cons_self ..))))).cells' (c := 3) (by rfl) rfl r _ HZ.out⟩)) ?_
                clear hK K
                try simp only [Act.put, List.setIfInBounds_toArray, List.set]
                refine Rest.one (i := 17) (by kernel_rfl) ?_
                refine Comes.mk (o := ⟨some 10, _, _, _, _, _⟩) rfl (fun K hK => ?_)
                go_simp
                refine hK.out _ _ (.inl rfl) ?_
                clear hK K
                refine Rest.done (by kernel_rfl) ?_ _
                go_wp2
                go_meet
                exact ⟨_, _, _, by first | rfl | (congr 1; omega), Lib.hid (wraps_row hR.head HGO.out), Lib.hid (HB40.out.trans (hR.bl.mono HB40.out.size))⟩
            · skip
              refine Comes.mk (o := ⟨some 42, _, _, _, _, _⟩) rfl (fun K hK => ?_)
              refine step_append_row rfl (.tmp 39) (.tmp 41) 34 43 rfl _ 5 56 Try.underlying34 Try.infoInst5 rfl (by decide) (by decide) (.slice (some ⟨y17, 0, none⟩) 0 0) 0 [] (by rfl) hR.head (.slice Ac (nd + 1) cc) (nd + 1) us (by rfl) (by rw [HGO.out.1, List.length_append, HND.out]; rfl) (HNW.out _ hR.bl) HGO.out.ones (by omega) ?_
              intro v27 x27 ho27 hg27 hat27
              simp only [Nat.zero_add, List.nil_append] at ho27
              replace hR := hR.grow hg27 ho27 hat27
              obtain ⟨A27, c27, rfl⟩ := owns_slice ho27
              clear ho27 hg27 hat27
              refine hK.out _ _ (.inr (⟨hR.bl, (hR.ow _ (List.mem_cons_of_mem _ (List.mem_cons_self ..))).cells' (c := 3) (by rfl) rfl r _ HZ.out⟩)) ?_
              clear hK K
              try simp only [Act.put, List.setIfInBounds_toArray, List.set]
              refine Rest.two (i := 8) (j := 14) (by kernel_rfl) ?_ ?_
              · skip
                refine Comes.mk (o := ⟨some 38, _, _, _, _, _⟩) rfl (fun K hK => ?_)
                go_simp
                replace hR := hR.lit 43 5 1 #[.int .i64 z, .int .i64 (-1), .int .i64 0, .int .u64 0, .slice none 0 0] rfl (by decide)
                refine hK.out _ _ (.inr (⟨hR.bl, (hR.ow _ (List.mem_cons_of_mem _ (List.mem_cons_of_mem _ (List.mem_cons_self ..)))).cells' (c := 3) (by rfl) rfl r _ HZ.out⟩)) ?_
                clear hK K
                try simp only [List.setIfInBounds_toArray, List.set]
                generalize hy28 : x27.heap.size = y28 at hR ⊢
                generalize (x27.alloc (.cells #[.int .i64 z, .int .i64 (-1), .int .i64 0, .int .u64 0, .slice none 0 0] 43)) = x28 at hR ⊢
                clear hy28
                refine Rest.one (i := 14) (by kernel_rfl) ?_
                refine Comes.mk (o := ⟨some 44, _, _, _, _, _⟩) rfl (fun K hK => ?_)
                go_simp
                replace hR := hR.lit 43 5 1 #[.int .i64 11, .int .i64 0, .int .i64 0, .int .u64 0, .slice none 0 0] rfl (by decide)
                refine hK.out _ _ (.inr (⟨hR.bl, (hR.ow _ (List.mem_cons_of_mem _ (List.mem_cons_of_mem _ (List.mem_cons_of_mem _ (List.mem_cons_self ..))))).cells' (c := 3) (by rfl) rfl r _ HZ.out⟩)) ?_
                clear hK K
                try simp only [List.setIfInBounds_toArray, List.set]
                generalize hy29 : x28.heap.size = y29 at hR ⊢
                generalize (x28.alloc (.cells #[.int .i64 11, .int .i64 0, .int .i64 0, .int .u64 0, .slice none 0 0] 43)) = x29 at hR ⊢
                clear hy29
                refine Rest.one (i := 15) (by kernel_rfl) ?_
                refine Comes.mk (o := ⟨some 45, _, _, _, _, _⟩) rfl (fun K hK => ?_)
                replace hR := hR.pull3
                refine step_append_row rfl (.tmp 42) (.tmp 44) 34 43 rfl _ 5 56 Try.underlying34 Try.infoInst5 rfl (by decide) (by decide) (.slice A27 (nd + 1) c27) (nd + 1) us (by rfl) hR.head (.slice (some ⟨y29, 0, none⟩) 1 1) 1 [.int .i64 11, .int .i64 0, .int .i64 0, .int .u64 0, .slice none 0 0] (by rfl) (by rfl) (owns_news ((hR.ow _ (List.mem_cons_of_mem _ (List.mem_cons_self ..))).own rfl)) (by simp [Value.oneCell']) (by omega) ?_
                intro v30 x30 ho30 hg30 hat30
                replace hR := hR.grow hg30 ho30 hat30
                obtain ⟨A30, c30, rfl⟩ := owns_slice ho30
                clear ho30 hg30 hat30
                refine hK.out _ _ (.inr (⟨hR.bl, (hR.ow _ (List.mem_cons_of_mem _ (List.mem_cons_of_mem _ (List.mem_cons_of_mem _ (List.mem_cons_self ..))))).cells' (c := 3) (by rfl) rfl r _ HZ.out⟩)) ?_
                clear hK K
                try simp only [Act.put, List.setIfInBounds_toArray, List.set]
                refine Rest.one (i := 16) (by kernel_rfl) ?_
                refine Comes.mk (o := ⟨some 46, _, _, _, _, _⟩) rfl (fun K hK => ?_)
                replace hR := hR.pull3
                refine step_append_row rfl (.tmp 38) (.tmp 45) 34 43 rfl _ 5 56 Try.underlying34 Try.infoInst5 rfl (by decide) (by decide) (.slice (some ⟨y28, 0, none⟩) 1 1) 1 [.int .i64 z, .int .i64 (-1), .int .i64 0, .int .u64 0, .slice none 0 0] (by rfl) hR.head (.slice A30 ((nd + 1) + 1) c30) (nd + 1 + 1) (us ++ [.int .i64 11, .int .i64 0, .int .i64 0, .int .u64 0, .slice none 0 0]) (by rfl) (by rw [List.length_append, HGO.out.1, List.length_append, HND.out]; simp only [List.length_cons, List.length_nil]; omega) (owns_news ((hR.ow _ (List.mem_cons_of_mem _ (List.mem_cons_self ..))).own rfl)) (by intro u hu; rcases List.mem_append.1 hu with h | h; (· exact HGO.out.ones u h); (· exact ones11 u h)) (by omega) ?_
                intro v31 x31 ho31 hg31 hat31
                replace hR := hR.grow hg31 ho31 hat31
                obtain ⟨A31, c31, rfl⟩ := owns_slice ho31
                clear ho31 hg31 hat31
                refine hK.out _ _ (.inr (⟨hR.bl, (hR.ow _ (List.mem_cons_of_mem _ (List.mem_cons_of_mem _ (List.mem_cons_of_mem _ (List.mem_cons_self ..))))).cells' (c := 3) (by rfl) rfl r _ HZ.out⟩)) ?_
                clear hK K
                try simp only [Act.put, List.setIfInBounds_toArray, List.set]
                refine Rest.one (i := 17) (by kernel_rfl) ?_
                refine Comes.mk (o := ⟨some 10, _, _, _, _, _⟩) rfl (fun K hK => ?_)
                go_simp
                refine hK.out _ _ (.inl rfl) ?_
                clear hK K
                refine Rest.done (by kernel_rfl) ?_ _
                go_wp2
                go_meet
                exact ⟨_, _, _, by first | rfl | (congr 1; omega), Lib.hid (wraps_row hR.head HGO.out), Lib.hid (HB40.out.trans (hR.bl.mono HB40.out.size))⟩
              · skip
                refine Comes.mk (o := ⟨some 44, _, _, _, _, _⟩) rfl (fun K hK => ?_)
                go_simp
                replace hR := hR.lit 43 5 1 #[.int .i64 11, .int .i64 0, .int .i64 0, .int .u64 0, .slice none 0 0] rfl (by decide)
                refine hK.out _ _ (.inr (⟨hR.bl, (hR.ow _ (List.mem_cons_of_mem _ (List.mem_cons_of_mem _ (List.mem_cons_self ..)))).cells' (c := 3) (by rfl) rfl r _ HZ.out⟩)) ?_
                clear hK K
                try simp only [List.setIfInBounds_toArray, List.set]
                generalize hy32 : x27.heap.size = y32 at hR ⊢
                generalize (x27.alloc (.cells #[.int .i64 11, .int .i64 0, .int .i64 0, .int .u64 0, .slice none 0 0] 43)) = x32 at hR ⊢
                clear hy32
                refine Rest.two (i := 8) (j := 15) (by kernel_rfl) ?_ ?_
                · skip
                  refine Comes.mk (o := ⟨some 38, _, _, _, _, _⟩) rfl (fun K hK => ?_)
                  go_simp
                  replace hR := hR.lit 43 5 1 #[.int .i64 z, .int .i64 (-1), .int .i64 0, .int .u64 0, .slice none 0 0] rfl (by decide)
                  refine hK.out _ _ (.inr (⟨hR.bl, (hR.ow _ (List.mem_cons_of_mem _ (List.mem_cons_of_mem _ (List.mem_cons_of_mem _ (List.mem_cons_self ..))))).cells' (c := 3) (by rfl) rfl r _ HZ.out⟩)) ?_
                  clear hK K
                  try simp only [List.setIfInBounds_toArray, List.set]
                  generalize hy33 : x32.heap.size = y33 at hR ⊢
                  generalize (x32.alloc (.cells #[.int .i64 z, .int .i64 (-1), .int .i64 0, .int .u64 0, .slice none 0 0] 43)) = x33 at hR ⊢
                  clear hy33
                  refine Rest.one (i := 15) (by kernel_rfl) ?_
                  refine Comes.mk (o := ⟨some 45, _, _, _, _, _⟩) rfl (fun K hK => ?_)
                  replace hR := hR.pull3
                  refine step_append_row rfl (.tmp 42) (.tmp 44) 34 43 rfl _ 5 56 Try.underlying34 Try.infoInst5 rfl (by decide) (by decide) (.slice A27 (nd + 1) c27) (nd + 1) us (by rfl) hR.head (.slice (some ⟨y32, 0, none⟩) 1 1) 1 [.int .i64 11, .int .i64 0, .int .i64 0, .int .u64 0, .slice none 0 0] (by rfl) (by rfl) (owns_news ((hR.ow _ (List.mem_cons_of_mem _ (List.mem_cons_of_mem _ (List.mem_cons_self ..)))).own rfl)) (by simp [Value.oneCell']) (by omega) ?_
                  intro v34 x34 ho34 hg34 hat34
                  replace hR := hR.grow hg34 ho34 hat34
                  obtain ⟨A34, c34, rfl⟩ := owns_slice ho34
                  clear ho34 hg34 hat34
                  refine hK.out _ _ (.inr (⟨hR.bl, (hR.ow _ (List.mem_cons_of_mem _ (List.mem_cons_of_mem _ (List.mem_cons_of_mem _ (List.mem_cons_self ..))))).cells' (c := 3) (by rfl) rfl r _ HZ.out⟩)) ?_
                  clear hK K
                  try simp only [Act.put, List.setIfInBounds_toArray, List.set]
                  refine Rest.one (i := 16) (by kernel_rfl) ?_
                  refine Comes.mk (o := ⟨some 46, _, _, _, _, _⟩) rfl (fun K hK => ?_)
                  replace hR := hR.swap
                  refine step_append_row rfl (.tmp 38) (.tmp 45) 34 43 rfl _ 5 56 Try.underlying34 Try.infoInst5 rfl (by decide) (by decide) (.slice (some ⟨y33, 0, none⟩) 1 1) 1 [.int .i64 z, .int .i64 (-1), .int .i64 0, .int .u64 0, .slice none 0 0] (by rfl) hR.head (.slice A34 ((nd + 1) + 1) c34) (nd + 1 + 1) (us ++ [.int .i64 11, .int .i64 0, .int .i64 0, .int .u64 0, .slice none 0 0]) (by rfl) (by rw [List.length_append, HGO.out.1, List.length_append, HND.out]; simp only [List.length_cons, List.length_nil]; omega) (owns_news ((hR.ow _ (List.mem_cons_of_mem _ (List.mem_cons_self ..))).own rfl)) (by intro u hu; rcases List.mem_append.1 hu with h | h; (· exact HGO.out.ones u h); (· exact ones11 u h)) (by omega) ?_
                  intro v35 x35 ho35 hg35 hat35
                  replace hR := hR.grow hg35 ho35 hat35
                  obtain ⟨A35, c35, rfl⟩ := owns_slice ho35
                  clear ho35 hg35 hat35
                  refine hK.out _ _ (.inr (⟨hR.bl, (hR.ow _ (List.mem_cons_of_mem _ (List.mem_cons_of_mem _ (List.mem_cons_of_mem _ (List.mem_cons_self ..))))).cells' (c := 3) (by rfl) rfl r _ HZ.out⟩)) ?_
                  clear hK K
                  try simp only [Act.put, List.setIfInBounds_toArray, List.set]
                  refine Rest.one (i := 17) (by kernel_rfl) ?_
                  refine Comes.mk (o := ⟨some 10, _, _, _, _, _⟩) rfl (fun K hK => ?_)
                  go_simp
                  refine hK.out _ _ (.inl rfl) ?_
                  clear hK K
                  refine Rest.done (by kernel_rfl) ?_ _
                  go_wp2
                  go_meet
                  exact ⟨_, _, _, by first | rfl | (congr 1; omega), Lib.hid (wraps_row hR.head HGO.out), Lib.hid (HB40.out.trans (hR.bl.mono HB40.out.size))⟩
                · skip
                  refine Comes.mk (o := ⟨some 45, _, _, _, _, _⟩) rfl (fun K hK => ?_)
                  replace hR := hR.swap
                  refine step_append_row rfl (.tmp 42) (.tmp 44) 34 43 rfl _ 5 56 Try.underlying34 Try.infoInst5 rfl (by decide) (by decide) (.slice A27 (nd + 1) c27) (nd + 1) us (by rfl) hR.head (.slice (some ⟨y32, 0, none⟩) 1 1) 1 [.int .i64 11, .int .i64 0, .int .i64 0, .int .u64 0, .slice none 0 0] (by rfl) (by rfl) (owns_news ((hR.ow _ (List.mem_cons_of_mem _ (List.mem_cons_self ..))).own rfl)) (by simp [Value.oneCell']) (by omega) ?_
                  intro v36 x36 ho36 hg36 hat36
                  replace hR := hR.grow hg36 ho36 hat36
                  obtain ⟨A36, c36, rfl⟩ := owns_slice ho36
                  clear ho36 hg36 hat36
                  refine hK.out _ _ (.inr (⟨hR.bl, (hR.ow _ (List.mem_cons_of_mem _ (List.mem_cons_of_mem _ (List.mem_cons_self ..)))).cells' (c := 3) (by rfl) rfl r _ HZ.out⟩)) ?_
                  clear hK K
                  try simp only [Act.put, List.setIfInBounds_toArray, List.set]
                  refine Rest.one (i := 8) (by kernel_rfl) ?_
                  refine Comes.mk (o := ⟨some 38, _, _, _, _, _⟩) rfl (fun K hK => ?_)
                  go_simp
                  replace hR := hR.lit 43 5 1 #[.int .i64 z, .int .i64 (-1), .int .i64 0, .int .u64 0, .slice none 0 0] rfl (by decide)
                  refine hK.out _ _ (.inr (⟨hR.bl, (hR.ow _ (List.mem_cons_of_mem _ (List.mem_cons_of_mem _ (List.mem_cons_of_mem _ (List.mem_cons_self ..))))).cells' (c := 3) (by rfl) rfl r _ HZ.out⟩)) ?_
                  clear hK K
                  try simp only [List.setIfInBounds_toArray, List.set]
                  generalize hy37 : x36.heap.size = y37 at hR ⊢
                  generalize (x36.alloc (.cells #[.int .i64 z, .int .i64 (-1), .int .i64 0, .int .u64 0, .slice none 0 0] 43)) = x37 at hR ⊢
                  clear hy37
                  refine Rest.one (i := 16) (by kernel_rfl) ?_
                  refine Comes.mk (o := ⟨some 46, _, _, _, _, _⟩) rfl (fun K hK => ?_)
                  refine step_append_row rfl (.tmp 38) (.tmp 45) 34 43 rfl _ 5 56 Try.underlying34 Try.infoInst5 rfl (by decide) (by decide) (.slice (some ⟨y37, 0, none⟩) 1 1) 1 [.int .i64 z, .int .i64 (-1), .int .i64 0, .int .u64 0, .slice none 0 0] (by rfl) hR.head (.slice A36 ((nd + 1) + 1) c36) (nd + 1 + 1) (us ++ [.int .i64 11, .int .i64 0, .int .i64 0, .int .u64 0, .slice none 0 0]) (by rfl) (by rw [List.length_append, HGO.out.1, List.length_append, HND.out]; simp only [List.length_cons, List.length_nil]; omega) (owns_news ((hR.ow _ (List.mem_cons_of_mem _ (List.mem_cons_self ..))).own rfl)) (by intro u hu; rcases List.mem_append.1 hu with h | h; (· exact HGO.out.ones u h); (· exact ones11 u h)) (by omega) ?_
                  intro v38 x38 ho38 hg38 hat38
                  replace hR := hR.grow hg38 ho38 hat38
                  obtain ⟨A38, c38, rfl⟩ := owns_slice ho38
                  clear ho38 hg38 hat38
                  refine hK.out _ _ (.inr (⟨hR.bl, (hR.ow _ (List.mem_cons_of_mem _ (List.mem_cons_of_mem _ (List.mem_cons_of_mem _ (List.mem_cons_self ..))))).cells' (c := 3) (by rfl) rfl r _ HZ.out⟩)) ?_
                  clear hK K
                  try simp only [Act.put, List.setIfInBounds_toArray, List.set]
                  refine Rest.one (i := 17) (by kernel_rfl) ?_
                  refine Comes.mk (o := ⟨some 10, _, _, _, _, _⟩) rfl (fun K hK => ?_)
                  go_simp
                  refine hK.out _ _ (.inl rfl) ?_
                  clear hK K
                  refine Rest.done (by kernel_rfl) ?_ _
                  go_wp2
                  go_meet
                  exact ⟨_, _, _, by first | rfl | (congr 1; omega), Lib.hid (wraps_row hR.head HGO.out), Lib.hid (HB40.out.trans (hR.bl.mono HB40.out.size))⟩
            · skip
              refine Comes.mk (o := ⟨some 44, _, _, _, _, _⟩) rfl (fun K hK => ?_)
              go_simp
              replace hR := hR.lit 43 5 1 #[.int .i64 11, .int .i64 0, .int .i64 0, .int .u64 0, .slice none 0 0] rfl (by decide)
              refine hK.out _ _ (.inr (⟨hR.bl, (hR.ow _ (List.mem_cons_of_mem _ (List.mem_cons_of_mem _ (List.mem_cons_self ..)))).cells' (c := 3) (by rfl) rfl r _ HZ.out⟩)) ?_
              clear hK K
              try simp only [List.setIfInBounds_toArray, List.set]
              generalize hy39 : x17.heap.size = y39 at hR ⊢
              generalize (x17.alloc (.cells #[.int .i64 11, .int .i64 0, .int .i64 0, .int .u64 0, .slice none 0 0] 43)) = x39 at hR ⊢
              clear hy39
              refine Rest.two (i := 8) (j := 12) (by kernel_rfl) ?_ ?_
              · skip
                refine Comes.mk (o := ⟨some 38, _, _, _, _, _⟩) rfl (fun K hK => ?_)
                go_simp
                replace hR := hR.lit 43 5 1 #[.int .i64 z, .int .i64 (-1), .int .i64 0, .int .u64 0, .slice none 0 0] rfl (by decide)
                refine hK.out _ _ (.inr (⟨hR.bl, (hR.ow _ (List.mem_cons_of_mem _ (List.mem_cons_of_mem _ (List.mem_cons_of_mem _ (List.mem_cons_self ..))))).cells' (c := 3) (by rfl) rfl r _ HZ.out⟩)) ?_
                clear hK K
                try simp only [List.setIfInBounds_toArray, List.set]
                generalize hy40 : x39.heap.size = y40 at hR ⊢
                generalize (x39.alloc (.cells #[.int .i64 z, .int .i64 (-1), .int .i64 0, .int .u64 0, .slice none 0 0] 43)) = x40 at hR ⊢
                clear hy40
                refine Rest.one (i := 12) (by kernel_rfl) ?_
                refine Comes.mk (o := ⟨some 42, _, _, _, _, _⟩) rfl (fun K hK => ?_)
                replace hR := hR.pull3
                refine step_append_row rfl (.tmp 39) (.tmp 41) 34 43 rfl _ 5 56 Try.underlying34 Try.infoInst5 rfl (by decide) (by decide) (.slice (some ⟨y17, 0, none⟩) 0 0) 0 [] (by rfl) hR.head (.slice Ac (nd + 1) cc) (nd + 1) us (by rfl) (by rw [HGO.out.1, List.length_append, HND.out]; rfl) (HNW.out _ hR.bl) HGO.out.ones (by omega) ?_
                intro v41 x41 ho41 hg41 hat41
                simp only [Nat.zero_add, List.nil_append] at ho41
                replace hR := hR.grow hg41 ho41 hat41
                obtain ⟨A41, c41, rfl⟩ := owns_slice ho41
                clear ho41 hg41 hat41
                refine hK.out _ _ (.inr (⟨hR.bl, (hR.ow _ (List.mem_cons_of_mem _ (List.mem_cons_of_mem _ (List.mem_cons_of_mem _ (List.mem_cons_self ..))))).cells' (c := 3) (by rfl) rfl r _ HZ.out⟩)) ?_
                clear hK K
                try simp only [Act.put, List.setIfInBounds_toArray, List.set]
                refine Rest.one (i := 15) (by kernel_rfl) ?_
                refine Comes.mk (o := ⟨some 45, _, _, _, _, _⟩) rfl (fun K hK => ?_)
                refine step_append_row rfl (.tmp 42) (.tmp 44) 34 43 rfl _ 5 56 Try.underlying34 Try.infoInst5 rfl (by decide) (by decide) (.slice A41 (nd + 1) c41) (nd + 1) us (by rfl) hR.head (.slice (some ⟨y39, 0, none⟩) 1 1) 1 [.int .i64 11, .int .i64 0, .int .i64 0, .int .u64 0, .slice none 0 0] (by rfl) (by rfl) (owns_news ((hR.ow _ (List.mem_cons_of_mem _ (List.mem_cons_of_mem _ (List.mem_cons_self ..)))).own rfl)) (by simp [Value.oneCell']) (by omega) ?_
                intro v42 x42 ho42 hg42 hat42
                replace hR := hR.grow hg42 ho42 hat42
                obtain ⟨A42, c42, rfl⟩ := owns_slice ho42
                clear ho42 hg42 hat42
                refine hK.out _ _ (.inr (⟨hR.bl, (hR.ow _ (List.mem_cons_of_mem _ (List.mem_cons_of_mem _ (List.mem_cons_of_mem _ (List.mem_cons_self ..))))).cells' (c := 3) (by rfl) rfl r _ HZ.out⟩)) ?_
                clear hK K
                try simp only [Act.put, List.setIfInBounds_toArray, List.set]
                refine Rest.one (i := 16) (by kernel_rfl) ?_
                refine Comes.mk (o := ⟨some 46, _, _, _, _, _⟩) rfl (fun K hK => ?_)
                replace hR := hR.swap
                refine step_append_row rfl (.tmp 38) (.tmp 45) 34 43 rfl _ 5 56 Try.underlying34 Try.infoInst5 rfl (by decide) (by decide) (.slice (some ⟨y40, 0, none⟩) 1 1) 1 [.int .i64 z, .int .i64 (-1), .int .i64 0, .int .u64 0, .slice none 0 0] (by rfl) hR.head (.slice A42 ((nd + 1) + 1) c42) (nd + 1 + 1) (us ++ [.int .i64 11, .int .i64 0, .int .i64 0, .int .u64 0, .slice none 0 0]) (by rfl) (by rw [List.length_append, HGO.out.1, List.length_append, HND.out]; simp only [List.length_cons, List.length_nil]; omega) (owns_news ((hR.ow _ (List.mem_cons_of_mem _ (List.mem_cons_self ..))).own rfl)) (by intro u hu; rcases List.mem_append.1 hu with h | h; (· exact HGO.out.ones u h); (· exact ones11 u h)) (by omega) ?_
                intro v43 x43 ho43 hg43 hat43
                replace hR := hR.grow hg43 ho43 hat43
                obtain ⟨A43, c43, rfl⟩ := owns_slice ho43
                clear ho43 hg43 hat43
                refine hK.out _ _ (.inr (⟨hR.bl, (hR.ow _ (List.mem_cons_of_mem _ (List.mem_cons_of_mem _ (List.mem_cons_of_mem _ (List.mem_cons_self ..))))).cells' (c := 3) (by rfl) rfl r _ HZ.out⟩)) ?_
                clear hK K
                try simp only [Act.put, List.setIfInBounds_toArray, List.set]
                refine Rest.one (i := 17) (by kernel_rfl) ?_
                refine Comes.mk (o := ⟨some 10, _, _, _, _, _⟩) rfl (fun K hK => ?_)
                go_simp
                refine hK.out _ _ (.inl rfl) ?_
                clear hK K
                refine Rest.done (by kernel_rfl) ?_ _
                go_wp2
                go_meet
                exact ⟨_, _, _, by first | rfl | (congr 1; omega), Lib.hid (wraps_row hR.head HGO.out), Lib.hid (HB40.out.trans (hR.bl.mono HB40.out.size))⟩
              · skip
                refine Comes.mk (o := ⟨some 42, _, _, _, _, _⟩) rfl (fun K hK => ?_)
                replace hR := hR.swap
                refine step_append_row rfl (.tmp 39) (.tmp 41) 34 43 rfl _ 5 56 Try.underlying34 Try.infoInst5 rfl (by decide) (by decide) (.slice (some ⟨y17, 0, none⟩) 0 0) 0 [] (by rfl) hR.head (.slice Ac (nd + 1) cc) (nd + 1) us (by rfl) (by rw [HGO.out.1, List.length_append, HND.out]; rfl) (HNW.out _ hR.bl) HGO.out.ones (by omega) ?_
                intro v44 x44 ho44 hg44 hat44
                simp only [Nat.zero_add, List.nil_append] at ho44
                replace hR := hR.grow hg44 ho44 hat44
                obtain ⟨A44, c44, rfl⟩ := owns_slice ho44
                clear ho44 hg44 hat44
                refine hK.out _ _ (.inr (⟨hR.bl, (hR.ow _ (List.mem_cons_of_mem _ (List.mem_cons_of_mem _ (List.mem_cons_self ..)))).cells' (c := 3) (by rfl) rfl r _ HZ.out⟩)) ?_
                clear hK K
                try simp only [Act.put, List.setIfInBounds_toArray, List.set]
                refine Rest.two (i := 8) (j := 15) (by kernel_rfl) ?_ ?_
                · skip
                  refine Comes.mk (o := ⟨some 38, _, _, _, _, _⟩) rfl (fun K hK => ?_)
                  go_simp
                  replace hR := hR.lit 43 5 1 #[.int .i64 z, .int .i64 (-1), .int .i64 0, .int .u64 0, .slice none 0 0] rfl (by decide)
                  refine hK.out _ _ (.inr (⟨hR.bl, (hR.ow _ (List.mem_cons_of_mem _ (List.mem_cons_of_mem _ (List.mem_cons_of_mem _ (List.mem_cons_self ..))))).cells' (c := 3) (by rfl) rfl r _ HZ.out⟩)) ?_
                  clear hK K
                  try simp only [List.setIfInBounds_toArray, List.set]
                  generalize hy45 : x44.heap.size = y45 at hR ⊢
                  generalize (x44.alloc (.cells #[.int .i64 z, .int .i64 (-1), .int .i64 0, .int .u64 0, .slice none 0 0] 43)) = x45 at hR ⊢
                  clear hy45
                  refine Rest.one (i := 15) (by kernel_rfl) ?_
                  refine Comes.mk (o := ⟨some 45, _, _, _, _, _⟩) rfl (fun K hK => ?_)
                  replace hR := hR.swap
                  refine step_append_row rfl (.tmp 42) (.tmp 44) 34 43 rfl _ 5 56 Try.underlying34 Try.infoInst5 rfl (by decide) (by decide) (.slice A44 (nd + 1) c44) (nd + 1) us (by rfl) hR.head (.slice (some ⟨y39, 0, none⟩) 1 1) 1 [.int .i64 11, .int .i64 0, .int .i64 0, .int .u64 0, .slice none 0 0] (by rfl) (by rfl) (owns_news ((hR.ow _ (List.mem_cons_of_mem _ (List.mem_cons_of_mem _ (List.mem_cons_self ..)))).own rfl)) (by simp [Value.oneCell']) (by omega) ?_
                  intro v46 x46 ho46 hg46 hat46
                  replace hR := hR.grow hg46 ho46 hat46
                  obtain ⟨A46, c46, rfl⟩ := owns_slice ho46
                  clear ho46 hg46 hat46
                  refine hK.out _ _ (.inr (⟨hR.bl, (hR.ow _ (List.mem_cons_of_mem _ (List.mem_cons_of_mem _ (List.mem_cons_of_mem _ (List.mem_cons_self ..))))).cells' (c := 3) (by rfl) rfl r _ HZ.out⟩)) ?_
                  clear hK K
                  try simp only [Act.put, List.setIfInBounds_toArray, List.set]
                  refine Rest.one (i := 16) (by kernel_rfl) ?_
                  refine Comes.mk (o := ⟨some 46, _, _, _, _, _⟩) rfl (fun K hK => ?_)
                  replace hR := hR.swap
                  refine step_append_row rfl (.tmp 38) (.tmp 45) 34 43 rfl _ 5 56 Try.underlying34 Try.infoInst5 rfl (by decide) (by decide) (.slice (some ⟨y45, 0, none⟩) 1 1) 1 [.int .i64 z, .int .i64 (-1), .int .i64 0, .int .u64 0, .slice none 0 0] (by rfl) hR.head (.slice A46 ((nd + 1) + 1) c46) (nd + 1 + 1) (us ++ [.int .i64 11, .int .i64 0, .int .i64 0, .int .u64 0, .slice none 0 0]) (by rfl) (by rw [List.length_append, HGO.out.1, List.length_append, HND.out]; simp only [List.length_cons, List.length_nil]; omega) (owns_news ((hR.ow _ (List.mem_cons_of_mem _ (List.mem_cons_self ..))).own rfl)) (by intro u hu; rcases List.mem_append.1 hu with h | h; (· exact HGO.out.ones u h); (· exact ones11 u h)) (by omega) ?_
                  intro v47 x47 ho47 hg47 hat47
                  replace hR := hR.grow hg47 ho47 hat47
                  obtain ⟨A47, c47, rfl⟩ := owns_slice ho47
                  clear ho47 hg47 hat47
                  refine hK.out _ _ (.inr (⟨hR.bl, (hR.ow _ (List.mem_cons_of_mem _ (List.mem_cons_of_mem _ (List.mem_cons_of_mem _ (List.mem_cons_self ..))))).cells' (c := 3) (by rfl) rfl r _ HZ.out⟩)) ?_
                  clear hK K
                  try simp only [Act.put, List.setIfInBounds_toArray, List.set]
                  refine Rest.one (i := 17) (by kernel_rfl) ?_
                  refine Comes.mk (o := ⟨some 10, _, _, _, _, _⟩) rfl (fun K hK => ?_)
                  go_simp
                  refine hK.out _ _ (.inl rfl) ?_
                  clear hK K
                  refine Rest.done (by kernel_rfl) ?_ _
                  go_wp2
                  go_meet
                  exact ⟨_, _, _, by first | rfl | (congr 1; omega), Lib.hid (wraps_row hR.head HGO.out), Lib.hid (HB40.out.trans (hR.bl.mono HB40.out.size))⟩
                · skip
                  refine Comes.mk (o := ⟨some 45, _, _, _, _, _⟩) rfl (fun K hK => ?_)
                  refine step_append_row rfl (.tmp 42) (.tmp 44) 34 43 rfl _ 5 56 Try.underlying34 Try.infoInst5 rfl (by decide) (by decide) (.slice A44 (nd + 1) c44) (nd + 1) us (by rfl) hR.head (.slice (some ⟨y39, 0, none⟩) 1 1) 1 [.int .i64 11, .int .i64 0, .int .i64 0, .int .u64 0, .slice none 0 0] (by rfl) (by rfl) (owns_news ((hR.ow _ (List.mem_cons_of_mem _ (List.mem_cons_self ..))).own rfl)) (by simp [Value.oneCell']) (by omega) ?_
                  intro v48 x48 ho48 hg48 hat48
                  replace hR := hR.grow hg48 ho48 hat48
                  obtain ⟨A48, c48, rfl⟩ := owns_slice ho48
                  clear ho48 hg48 hat48
                  refine hK.out _ _ (.inr (⟨hR.bl, (hR.ow _ (List.mem_cons_of_mem _ (List.mem_cons_of_mem _ (List.mem_cons_self ..)))).cells' (c := 3) (by rfl) rfl r _ HZ.out⟩)) ?_
                  clear hK K
                  try simp only [Act.put, List.setIfInBounds_toArray, List.set]
                  refine Rest.one (i := 8) (by kernel_rfl) ?_
                  refine Comes.mk (o := ⟨some 38, _, _, _, _, _⟩) rfl (fun K hK => ?_)
                  go_simp
                  replace hR := hR.lit 43 5 1 #[.int .i64 z, .int .i64 (-1), .int .i64 0, .int .u64 0, .slice none 0 0] rfl (by decide)
                  refine hK.out _ _ (.inr (⟨hR.bl, (hR.ow _ (List.mem_cons_of_mem _ (List.mem_cons_of_mem _ (List.mem_cons_of_mem _ (List.mem_cons_self ..))))).cells' (c := 3) (by rfl) rfl r _ HZ.out⟩)) ?_
                  clear hK K
                  try simp only [List.setIfInBounds_toArray, List.set]
                  generalize hy49 : x48.heap.size = y49 at hR ⊢
                  generalize (x48.alloc (.cells #[.int .i64 z, .int .i64 (-1), .int .i64 0, .int .u64 0, .slice none 0 0] 43)) = x49 at hR ⊢
                  clear hy49
                  refine Rest.one (i := 16) (by kernel_rfl) ?_
                  refine Comes.mk (o := ⟨some 46, _, _, _, _, _⟩) rfl (fun K hK => ?_)
                  refine step_append_row rfl (.tmp 38) (.tmp 45) 34 43 rfl _ 5 56 Try.underlying34 Try.infoInst5 rfl (by decide) (by decide) (.slice (some ⟨y49, 0, none⟩) 1 1) 1 [.int .i64 z, .int .i64 (-1), .int .i64 0, .int .u64 0, .slice none 0 0] (by rfl) hR.head (.slice A48 ((nd + 1) + 1) c48) (nd + 1 + 1) (us ++ [.int .i64 11, .int .i64 0, .int .i64 0, .int .u64 0, .slice none 0 0]) (by rfl) (by rw [List.length_append, HGO.out.1, List.length_append, HND.out]; simp only [List.length_cons, List.length_nil]; omega) (owns_news ((hR.ow _ (List.mem_cons_of_mem _ (List.mem_cons_self ..))).own rfl)) (by intro u hu; rcases List.mem_append.1 hu with h | h; (· exact HGO.out.ones u h); (· exact ones11 u h)) (by omega) ?_
                  intro v50 x50 ho50 hg50 hat50
                  replace hR := hR.grow hg50 ho50 hat50
                  obtain ⟨A50, c50, rfl⟩ := owns_slice ho50
                  clear ho50 hg50 hat50
                  refine hK.out _ _ (.inr (⟨hR.bl, (hR.ow _ (List.mem_cons_of_mem _ (List.mem_cons_of_mem _ (List.mem_cons_of_mem _ (List.mem_cons_self ..))))).cells' (c := 3) (by rfl) rfl r _ HZ.out⟩)) ?_
                  clear hK K
                  try simp only [Act.put, List.setIfInBounds_toArray, List.set]
                  refine Rest.one (i := 17) (by kernel_rfl) ?_
                  refine Comes.mk (o := ⟨some 10, _, _, _, _, _⟩) rfl (fun K hK => ?_)
                  go_simp
                  refine hK.out _ _ (.inl rfl) ?_
                  clear hK K
                  refine Rest.done (by kernel_rfl) ?_ _
                  go_wp2
                  go_meet
                  exact ⟨_, _, _, by first | rfl | (congr 1; omega), Lib.hid (wraps_row hR.head HGO.out), Lib.hid (HB40.out.trans (hR.bl.mono HB40.out.size))⟩
          · skip
            refine Comes.mk (o := ⟨some 44, _, _, _, _, _⟩) rfl (fun K hK => ?_)
            go_simp
            replace hR := hR.lit 43 5 1 #[.int .i64 11, .int .i64 0, .int .i64 0, .int .u64 0, .slice none 0 0] rfl (by decide)
            refine hK.out _ _ (.inr (⟨hR.bl, (hR.ow _ (List.mem_cons_of_mem _ (List.mem_cons_self ..))).cells' (c := 3) (by rfl) rfl r _ HZ.out⟩)) ?_
            clear hK K
            try simp only [List.setIfInBounds_toArray, List.set]
            generalize hy51 : x1.heap.size = y51 at hR ⊢
            generalize (x1.alloc (.cells #[.int .i64 11, .int .i64 0, .int .i64 0, .int .u64 0, .slice none 0 0] 43)) = x51 at hR ⊢
            clear hy51
            refine Rest.two (i := 8) (j := 9) (by kernel_rfl) ?_ ?_
            · skip
              refine Comes.mk (o := ⟨some 38, _, _, _, _, _⟩) rfl (fun K hK => ?_)
              go_simp
              replace hR := hR.lit 43 5 1 #[.int .i64 z, .int .i64 (-1), .int .i64 0, .int .u64 0, .slice none 0 0] rfl (by decide)
              refine hK.out _ _ (.inr (⟨hR.bl, (hR.ow _ (List.mem_cons_of_mem _ (List.mem_cons_of_mem _ (List.mem_cons_self ..)))).cells' (c := 3) (by rfl) rfl r _ HZ.out⟩)) ?_
              clear hK K
              try simp only [List.setIfInBounds_toArray, List.set]
              generalize hy52 : x51.heap.size = y52 at hR ⊢
              generalize (x51.alloc (.cells #[.int .i64 z, .int .i64 (-1), .int .i64 0, .int .u64 0, .slice none 0 0] 43)) = x52 at hR ⊢
              clear hy52
              refine Rest.one (i := 9) (by kernel_rfl) ?_
              refine Comes.mk (o := ⟨some 39, _, _, _, _, _⟩) rfl (fun K hK => ?_)
              go_simp
              replace hR := hR.lit 43 5 0 #[] rfl (by decide)
              refine hK.out _ _ (.inr (⟨hR.bl, (hR.ow _ (List.mem_cons_of_mem _ (List.mem_cons_of_mem _ (List.mem_cons_of_mem _ (List.mem_cons_self ..))))).cells' (c := 3) (by rfl) rfl r _ HZ.out⟩)) ?_
              clear hK K
              try simp only [List.setIfInBounds_toArray, List.set]
              generalize hy53 : x52.heap.size = y53 at hR ⊢
              generalize (x52.alloc (.cells #[] 43)) = x53 at hR ⊢
              clear hy53
              refine Rest.one (i := 12) (by kernel_rfl) ?_
              refine Comes.mk (o := ⟨some 42, _, _, _, _, _⟩) rfl (fun K hK => ?_)
              refine step_append_row rfl (.tmp 39) (.tmp 41) 34 43 rfl _ 5 56 Try.underlying34 Try.infoInst5 rfl (by decide) (by decide) (.slice (some ⟨y53, 0, none⟩) 0 0) 0 [] (by rfl) hR.head (.slice Ac (nd + 1) cc) (nd + 1) us (by rfl) (by rw [HGO.out.1, List.length_append, HND.out]; rfl) (HNW.out _ hR.bl) HGO.out.ones (by omega) ?_
              intro v54 x54 ho54 hg54 hat54
              simp only [Nat.zero_add, List.nil_append] at ho54
              replace hR := hR.grow hg54 ho54 hat54
              obtain ⟨A54, c54, rfl⟩ := owns_slice ho54
              clear ho54 hg54 hat54
              refine hK.out _ _ (.inr (⟨hR.bl, (hR.ow _ (List.mem_cons_of_mem _ (List.mem_cons_of_mem _ (List.mem_cons_of_mem _ (List.mem_cons_self ..))))).cells' (c := 3) (by rfl) rfl r _ HZ.out⟩)) ?_
              clear hK K
              try simp only [Act.put, List.setIfInBounds_toArray, List.set]
              refine Rest.one (i := 15) (by kernel_rfl) ?_
              refine Comes.mk (o := ⟨some 45, _, _, _, _, _⟩) rfl (fun K hK => ?_)
              refine step_append_row rfl (.tmp 42) (.tmp 44) 34 43 rfl _ 5 56 Try.underlying34 Try.infoInst5 rfl (by decide) (by decide) (.slice A54 (nd + 1) c54) (nd + 1) us (by rfl) hR.head (.slice (some ⟨y51, 0, none⟩) 1 1) 1 [.int .i64 11, .int .i64 0, .int .i64 0, .int .u64 0, .slice none 0 0] (by rfl) (by rfl) (owns_news ((hR.ow _ (List.mem_cons_of_mem _ (List.mem_cons_of_mem _ (List.mem_cons_self ..)))).own rfl)) (by simp [Value.oneCell']) (by omega) ?_
              intro v55 x55 ho55 hg55 hat55
              replace hR := hR.grow hg55 ho55 hat55
              obtain ⟨A55, c55, rfl⟩ := owns_slice ho55
              clear ho55 hg55 hat55
              refine hK.out _ _ (.inr (⟨hR.bl, (hR.ow _ (List.mem_cons_of_mem _ (List.mem_cons_of_mem _ (List.mem_cons_of_mem _ (List.mem_cons_self ..))))).cells' (c := 3) (by rfl) rfl r _ HZ.out⟩)) ?_
              clear hK K
              try simp only [Act.put, List.setIfInBounds_toArray, List.set]
              refine Rest.one (i := 16) (by kernel_rfl) ?_
              refine Comes.mk (o := ⟨some 46, _, _, _, _, _⟩) rfl (fun K hK => ?_)
              replace hR := hR.swap
              refine step_append_row rfl (.tmp 38) (.tmp 45) 34 43 rfl _ 5 56 Try.underlying34 Try.infoInst5 rfl (by decide) (by decide) (.slice (some ⟨y52, 0, none⟩) 1 1) 1 [.int .i64 z, .int .i64 (-1), .int .i64 0, .int .u64 0, .slice none 0 0] (by rfl) hR.head (.slice A55 ((nd + 1) + 1) c55) (nd + 1 + 1) (us ++ [.int .i64 11, .int .i64 0, .int .i64 0, .int .u64 0, .slice none 0 0]) (by rfl) (by rw [List.length_append, HGO.out.1, List.length_append, HND.out]; simp only [List.length_cons, List.length_nil]; omega) (owns_news ((hR.ow _ (List.mem_cons_of_mem _ (List.mem_cons_self ..))).own rfl)) (by intro u hu; rcases List.mem_append.1 hu with h | h; (· exact HGO.out.ones u h); (· exact ones11 u h)) (by omega) ?_
              intro v56 x56 ho56 hg56 hat56
              replace hR := hR.grow hg56 ho56 hat56
              obtain ⟨A56, c56, rfl⟩ := owns_slice ho56
              clear ho56 hg56 hat56
              refine hK.out _ _ (.inr (⟨hR.bl, (hR.ow _ (List.mem_cons_of_mem _ (List.mem_cons_of_mem _ (List.mem_cons_of_mem _ (List.mem_cons_self ..))))).cells' (c := 3) (by rfl) rfl r _ HZ.out⟩)) ?_
              clear hK K
              try simp only [Act.put, List.setIfInBounds_toArray, List.set]
              refine Rest.one (i := 17) (by kernel_rfl) ?_
              refine Comes.mk (o := ⟨some 10, _, _, _, _, _⟩) rfl (fun K hK => ?_)
              go_simp
              refine hK.out _ _ (.inl rfl) ?_
              clear hK K
              refine Rest.done (by kernel_rfl) ?_ _
              go_wp2
              go_meet
              exact ⟨_, _, _, by first | rfl | (congr 1; omega), Lib.hid (wraps_row hR.head HGO.out), Lib.hid (HB40.out.trans (hR.bl.mono HB40.out.size))⟩
            · skip
              refine Comes.mk (o := ⟨some 39, _, _, _, _, _⟩) rfl (fun K hK => ?_)
              go_simp
              replace hR := hR.lit 43 5 0 #[] rfl (by decide)
              refine hK.out _ _ (.inr (⟨hR.bl, (hR.ow _ (List.mem_cons_of_mem _ (List.mem_cons_of_mem _ (List.mem_cons_self ..)))).cells' (c := 3) (by rfl) rfl r _ HZ.out⟩)) ?_
              clear hK K
              try simp only [List.setIfInBounds_toArray, List.set]
              generalize hy57 : x51.heap.size = y57 at hR ⊢
              generalize (x51.alloc (.cells #[] 43)) = x57 at hR ⊢
              clear hy57
              refine Rest.two (i := 8) (j := 12) (by kernel_rfl) ?_ ?_
              · skip
                refine Comes.mk (o := ⟨some 38, _, _, _, _, _⟩) rfl (fun K hK => ?_)
                go_simp
                replace hR := hR.lit 43 5 1 #[.int .i64 z, .int .i64 (-1), .int .i64 0, .int .u64 0, .slice none 0 0] rfl (by decide)
                refine hK.out _ _ (.inr (⟨hR.bl, (hR.ow _ (List.mem_cons_of_mem _ (List.mem_cons_of_mem _ (List.mem_cons_of_mem _ (List.mem_cons_self ..))))).cells' (c := 3) (by rfl) rfl r _ HZ.out⟩)) ?_
                clear hK K
                try simp only [List.setIfInBounds_toArray, List.set]
                generalize hy58 : x57.heap.size = y58 at hR ⊢
                generalize (x57.alloc (.cells #[.int .i64 z, .int .i64 (-1), .int .i64 0, .int .u64 0, .slice none 0 0] 43)) = x58 at hR ⊢
                clear hy58
                refine Rest.one (i := 12) (by kernel_rfl) ?_
                refine Comes.mk (o := ⟨some 42, _, _, _, _, _⟩) rfl (fun K hK => ?_)
                replace hR := hR.swap
                refine step_append_row rfl (.tmp 39) (.tmp 41) 34 43 rfl _ 5 56 Try.underlying34 Try.infoInst5 rfl (by decide) (by decide) (.slice (some ⟨y57, 0, none⟩) 0 0) 0 [] (by rfl) hR.head (.slice Ac (nd + 1) cc) (nd + 1) us (by rfl) (by rw [HGO.out.1, List.length_append, HND.out]; rfl) (HNW.out _ hR.bl) HGO.out.ones (by omega) ?_
                intro v59 x59 ho59 hg59 hat59
                simp only [Nat.zero_add, List.nil_append] at ho59
                replace hR := hR.grow hg59 ho59 hat59
                obtain ⟨A59, c59, rfl⟩ := owns_slice ho59
                clear ho59 hg59 hat59
                refine hK.out _ _ (.inr (⟨hR.bl, (hR.ow _ (List.mem_cons_of_mem _ (List.mem_cons_of_mem _ (List.mem_cons_of_mem _ (List.mem_cons_self ..))))).cells' (c := 3) (by rfl) rfl r _ HZ.out⟩)) ?_
                clear hK K
                try simp only [Act.put, List.setIfInBounds_toArray, List.set]
                refine Rest.one (i := 15) (by kernel_rfl) ?_
                refine Comes.mk (o := ⟨some 45, _, _, _, _, _⟩) rfl (fun K hK => ?_)
                refine step_append_row rfl (.tmp 42) (.tmp 44) 34 43 rfl _ 5 56 Try.underlying34 Try.infoInst5 rfl (by decide) (by decide) (.slice A59 (nd + 1) c59) (nd + 1) us (by rfl) hR.head (.slice (some ⟨y51, 0, none⟩) 1 1) 1 [.int .i64 11, .int .i64 0, .int .i64 0, .int .u64 0, .slice none 0 0] (by rfl) (by rfl) (owns_news ((hR.ow _ (List.mem_cons_of_mem _ (List.mem_cons_of_mem _ (List.mem_cons_self ..)))).own rfl)) (by simp [Value.oneCell']) (by omega) ?_
                intro v60 x60 ho60 hg60 hat60
                replace hR := hR.grow hg60 ho60 hat60
                obtain ⟨A60, c60, rfl⟩ := owns_slice ho60
                clear ho60 hg60 hat60
                refine hK.out _ _ (.inr (⟨hR.bl, (hR.ow _ (List.mem_cons_of_mem _ (List.mem_cons_of_mem _ (List.mem_cons_of_mem _ (List.mem_cons_self ..))))).cells' (c := 3) (by rfl) rfl r _ HZ.out⟩)) ?_
                clear hK K
                try simp only [Act.put, List.setIfInBounds_toArray, List.set]
                refine Rest.one (i := 16) (by kernel_rfl) ?_
                refine Comes.mk (o := ⟨some 46, _, _, _, _, _⟩) rfl (fun K hK => ?_)
                replace hR := hR.swap
                refine step_append_row rfl (.tmp 38) (.tmp 45) 34 43 rfl _ 5 56 Try.underlying34 Try.infoInst5 rfl (by decide) (by decide) (.slice (some ⟨y58, 0, none⟩) 1 1) 1 [.int .i64 z, .int .i64 (-1), .int .i64 0, .int .u64 0, .slice none 0 0] (by rfl) hR.head (.slice A60 ((nd + 1) + 1) c60) (nd + 1 + 1) (us ++ [.int .i64 11, .int .i64 0, .int .i64 0, .int .u64 0, .slice none 0 0]) (by rfl) (by rw [List.length_append, HGO.out.1, List.length_append, HND.out]; simp only [List.length_cons, List.length_nil]; omega) (owns_news ((hR.ow _ (List.mem_cons_of_mem _ (List.mem_cons_self ..))).own rfl)) (by intro u hu; rcases List.mem_append.1 hu with h | h; (· exact HGO.out.ones u h); (· exact ones11 u h)) (by omega) ?_
                intro v61 x61 ho61 hg61 hat61
                replace hR := hR.grow hg61 ho61 hat61
                obtain ⟨A61, c61, rfl⟩ := owns_slice ho61
                clear ho61 hg61 hat61
                refine hK.out _ _ (.inr (⟨hR.bl, (hR.ow _ (List.mem_cons_of_mem _ (List.mem_cons_of_mem _ (List.mem_cons_of_mem _ (List.mem_cons_self ..))))).cells' (c := 3) (by rfl) rfl r _ HZ.out⟩)) ?_
                clear hK K
                try simp only [Act.put, List.setIfInBounds_toArray, List.set]
                refine Rest.one (i := 17) (by kernel_rfl) ?_
                refine Comes.mk (o := ⟨some 10, _, _, _, _, _⟩) rfl (fun K hK => ?_)
                go_simp
                refine hK.out _ _ (.inl rfl) ?_
                clear hK K
                refine Rest.done (by kernel_rfl) ?_ _
                go_wp2
                go_meet
                exact ⟨_, _, _, by first | rfl | (congr 1; omega), Lib.hid (wraps_row hR.head HGO.out), Lib.hid (HB40.out.trans (hR.bl.mono HB40.out.size))⟩
              · skip
                refine Comes.mk (o := ⟨some 42, _, _, _, _, _⟩) rfl (fun K hK => ?_)
                refine step_append_row rfl (.tmp 39) (.tmp 41) 34 43 rfl _ 5 56 Try.underlying34 Try.infoInst5 rfl (by decide) (by decide) (.slice (some ⟨y57, 0, none⟩) 0 0) 0 [] (by rfl) hR.head (.slice Ac (nd + 1) cc) (nd + 1) us (by rfl) (by rw [HGO.out.1, List.length_append, HND.out]; rfl) (HNW.out _ hR.bl) HGO.out.ones (by omega) ?_
                intro v62 x62 ho62 hg62 hat62
                simp only [Nat.zero_add, List.nil_append] at ho62
                replace hR := hR.grow hg62 ho62 hat62
                obtain ⟨A62, c62, rfl⟩ := owns_slice ho62
                clear ho62 hg62 hat62
                refine hK.out _ _ (.inr (⟨hR.bl, (hR.ow _ (List.mem_cons_of_mem _ (List.mem_cons_of_mem _ (List.mem_cons_self ..)))).cells' (c := 3) (by rfl) rfl r _ HZ.out⟩)) ?_
                clear hK K
                try simp only [Act.put, List.setIfInBounds_toArray, List.set]
                refine Rest.two (i := 8) (j := 15) (by kernel_rfl) ?_ ?_
                · skip
                  refine Comes.mk (o := ⟨some 38, _, _, _, _, _⟩) rfl (fun K hK => ?_)
                  go_simp
                  replace hR := hR.lit 43 5 1 #[.int .i64 z, .int .i64 (-1), .int .i64 0, .int .u64 0, .slice none 0 0] rfl (by decide)
                  refine hK.out _ _ (.inr (⟨hR.bl, (hR.ow _ (List.mem_cons_of_mem _ (List.mem_cons_of_mem _ (List.mem_cons_of_mem _ (List.mem_cons_self ..))))).cells' (c := 3) (by rfl) rfl r _ HZ.out⟩)) ?_
                  clear hK K
                  try simp only [List.setIfInBounds_toArray, List.set]
                  generalize hy63 : x62.heap.size = y63 at hR ⊢
                  generalize (x62.alloc (.cells #[.int .i64 z, .int .i64 (-1), .int .i64 0, .int .u64 0, .slice none 0 0] 43)) = x63 at hR ⊢
                  clear hy63
                  refine Rest.one (i := 15) (by kernel_rfl) ?_
                  refine Comes.mk (o := ⟨some 45, _, _, _, _, _⟩) rfl (fun K hK => ?_)
                  replace hR := hR.swap
                  refine step_append_row rfl (.tmp 42) (.tmp 44) 34 43 rfl _ 5 56 Try.underlying34 Try.infoInst5 rfl (by decide) (by decide) (.slice A62 (nd + 1) c62) (nd + 1) us (by rfl) hR.head (.slice (some ⟨y51, 0, none⟩) 1 1) 1 [.int .i64 11, .int .i64 0, .int .i64 0, .int .u64 0, .slice none 0 0] (by rfl) (by rfl) (owns_news ((hR.ow _ (List.mem_cons_of_mem _ (List.mem_cons_of_mem _ (List.mem_cons_self ..)))).own rfl)) (by simp [Value.oneCell']) (by omega) ?_
                  intro v64 x64 ho64 hg64 hat64
                  replace hR := hR.grow hg64 ho64 hat64
                  obtain ⟨A64, c64, rfl⟩ := owns_slice ho64
                  clear ho64 hg64 hat64
                  refine hK.out _ _ (.inr (⟨hR.bl, (hR.ow _ (List.mem_cons_of_mem _ (List.mem_cons_of_mem _ (List.mem_cons_of_mem _ (List.mem_cons_self ..))))).cells' (c := 3) (by rfl) rfl r _ HZ.out⟩)) ?_
                  clear hK K
                  try simp only [Act.put, List.setIfInBounds_toArray, List.set]
                  refine Rest.one (i := 16) (by kernel_rfl) ?_
                  refine Comes.mk (o := ⟨some 46, _, _, _, _, _⟩) rfl (fun K hK => ?_)
                  replace hR := hR.swap
                  refine step_append_row rfl (.tmp 38) (.tmp 45) 34 43 rfl _ 5 56 Try.underlying34 Try.infoInst5 rfl (by decide) (by decide) (.slice (some ⟨y63, 0, none⟩) 1 1) 1 [.int .i64 z, .int .i64 (-1), .int .i64 0, .int .u64 0, .slice none 0 0] (by rfl) hR.head (.slice A64 ((nd + 1) + 1) c64) (nd + 1 + 1) (us ++ [.int .i64 11, .int .i64 0, .int .i64 0, .int .u64 0, .slice none 0 0]) (by rfl) (by rw [List.length_append, HGO.out.1, List.length_append, HND.out]; simp only [List.length_cons, List.length_nil]; omega) (owns_news ((hR.ow _ (List.mem_cons_of_mem _ (List.mem_cons_self ..))).own rfl)) (by intro u hu; rcases List.mem_append.1 hu with h | h; (· exact HGO.out.ones u h); (· exact ones11 u h)) (by omega) ?_
                  intro v65 x65 ho65 hg65 hat65
                  replace hR := hR.grow hg65 ho65 hat65
                  obtain ⟨A65, c65, rfl⟩ := owns_slice ho65
                  clear ho65 hg65 hat65
                  refine hK.out _ _ (.inr (⟨hR.bl, (hR.ow _ (List.mem_cons_of_mem _ (List.mem_cons_of_mem _ (List.mem_cons_of_mem _ (List.mem_cons_self ..))))).cells' (c := 3) (by rfl) rfl r _ HZ.out⟩)) ?_
                  clear hK K
                  try simp only [Act.put, List.setIfInBounds_toArray, List.set]
                  refine Rest.one (i := 17) (by kernel_rfl) ?_
                  refine Comes.mk (o := ⟨some 10, _, _, _, _, _⟩) rfl (fun K hK => ?_)
                  go_simp
                  refine hK.out _ _ (.inl rfl) ?_
                  clear hK K
                  refine Rest.done (by kernel_rfl) ?_ _
                  go_wp2
                  go_meet
                  exact ⟨_, _, _, by first | rfl | (congr 1; omega), Lib.hid (wraps_row hR.head HGO.out), Lib.hid (HB40.out.trans (hR.bl.mono HB40.out.size))⟩
                · skip
                  refine Comes.mk (o := ⟨some 45, _, _, _, _, _⟩) rfl (fun K hK => ?_)
                  refine step_append_row rfl (.tmp 42) (.tmp 44) 34 43 rfl _ 5 56 Try.underlying34 Try.infoInst5 rfl (by decide) (by decide) (.slice A62 (nd + 1) c62) (nd + 1) us (by rfl) hR.head (.slice (some ⟨y51, 0, none⟩) 1 1) 1 [.int .i64 11, .int .i64 0, .int .i64 0, .int .u64 0, .slice none 0 0] (by rfl) (by rfl) (owns_news ((hR.ow _ (List.mem_cons_of_mem _ (List.mem_cons_self ..))).own rfl)) (by simp [Value.oneCell']) (by omega) ?_
                  intro v66 x66 ho66 hg66 hat66
                  replace hR := hR.grow hg66 ho66 hat66
                  obtain ⟨A66, c66, rfl⟩ := owns_slice ho66
                  clear ho66 hg66 hat66
                  refine hK.out _ _ (.inr (⟨hR.bl, (hR.ow _ (List.mem_cons_of_mem _ (List.mem_cons_of_mem _ (List.mem_cons_self ..)))).cells' (c := 3) (by rfl) rfl r _ HZ.out⟩)) ?_
                  clear hK K
                  try simp only [Act.put, List.setIfInBounds_toArray, List.set]
                  refine Rest.one (i := 8) (by kernel_rfl) ?_
                  refine Comes.mk (o := ⟨some 38, _, _, _, _, _⟩) rfl (fun K hK => ?_)
                  go_simp
                  replace hR := hR.lit 43 5 1 #[.int .i64 z, .int .i64 (-1), .int .i64 0, .int .u64 0, .slice none 0 0] rfl (by decide)
                  refine hK.out _ _ (.inr (⟨hR.bl, (hR.ow _ (List.mem_cons_of_mem _ (List.mem_cons_of_mem _ (List.mem_cons_of_mem _ (List.mem_cons_self ..))))).cells' (c := 3) (by rfl) rfl r _ HZ.out⟩)) ?_
                  clear hK K
                  try simp only [List.setIfInBounds_toArray, List.set]
                  generalize hy67 : x66.heap.size = y67 at hR ⊢
                  generalize (x66.alloc (.cells #[.int .i64 z, .int .i64 (-1), .int .i64 0, .int .u64 0, .slice none 0 0] 43)) = x67 at hR ⊢
                  clear hy67
                  refine Rest.one (i := 16) (by kernel_rfl) ?_
                  refine Comes.mk (o := ⟨some 46, _, _, _, _, _⟩) rfl (fun K hK => ?_)
                  refine step_append_row rfl (.tmp 38) (.tmp 45) 34 43 rfl _ 5 56 Try.underlying34 Try.infoInst5 rfl (by decide) (by decide) (.slice (some ⟨y67, 0, none⟩) 1 1) 1 [.int .i64 z, .int .i64 (-1), .int .i64 0, .int .u64 0, .slice none 0 0] (by rfl) hR.head (.slice A66 ((nd + 1) + 1) c66) (nd + 1 + 1) (us ++ [.int .i64 11, .int .i64 0, .int .i64 0, .int .u64 0, .slice none 0 0]) (by rfl) (by rw [List.length_append, HGO.out.1, List.length_append, HND.out]; simp only [List.length_cons, List.length_nil]; omega) (owns_news ((hR.ow _ (List.mem_cons_of_mem _ (List.mem_cons_self ..))).own rfl)) (by intro u hu; rcases List.mem_append.1 hu with h | h; (· exact HGO.out.ones u h); (· exact ones11 u h)) (by omega) ?_
                  intro v68 x68 ho68 hg68 hat68
                  replace hR := hR.grow hg68 ho68 hat68
                  obtain ⟨A68, c68, rfl⟩ := owns_slice ho68
                  clear ho68 hg68 hat68
                  refine hK.out _ _ (.inr (⟨hR.bl, (hR.ow _ (List.mem_cons_of_mem _ (List.mem_cons_of_mem _ (List.mem_cons_of_mem _ (List.mem_cons_self ..))))).cells' (c := 3) (by rfl) rfl r _ HZ.out⟩)) ?_
                  clear hK K
                  try simp only [Act.put, List.setIfInBounds_toArray, List.set]
                  refine Rest.one (i := 17) (by kernel_rfl) ?_
                  refine Comes.mk (o := ⟨some 10, _, _, _, _, _⟩) rfl (fun K hK => ?_)
                  go_simp
                  refine hK.out _ _ (.inl rfl) ?_
                  clear hK K
                  refine Rest.done (by kernel_rfl) ?_ _
                  go_wp2
                  go_meet
                  exact ⟨_, _, _, by first | rfl | (congr 1; omega), Lib.hid (wraps_row hR.head HGO.out), Lib.hid (HB40.out.trans (hR.bl.mono HB40.out.size))⟩
        · skip
          refine Comes.mk (o := ⟨some 39, _, _, _, _, _⟩) rfl (fun K hK => ?_)
          go_simp
          replace hR := hR.lit 43 5 0 #[] rfl (by decide)
          refine hK.out _ _ (.inr (hR.bl)) ?_
          clear hK K
          try simp only [List.setIfInBounds_toArray, List.set]
          generalize hy69 : w4.heap.size = y69 at hR ⊢
          generalize (w4.alloc (.cells #[] 43)) = x69 at hR ⊢
          clear hy69
          refine Rest.three (i := 0) (j := 12) (l := 14) (by kernel_rfl) ?_ ?_ ?_
          · skip
            refine Comes.mk (o := ⟨some 30, _, _, _, _, _⟩) rfl (fun K hK => ?_)
            go_simp
            replace hR := hR.lit 3 1 3 #[.int .i64 2, .int .i64 3, .int .i64 4] rfl (by decide)
            refine hK.out _ _ (.inr (hR.bl)) ?_
            clear hK K
            try simp only [List.setIfInBounds_toArray, List.set]
            generalize hy70 : x69.heap.size = y70 at hR ⊢
            generalize (x69.alloc (.cells #[.int .i64 2, .int .i64 3, .int .i64 4] 3)) = x70 at hR ⊢
            clear hy70
            refine Rest.strong (S' := fun w' => Bel w4 w' ∧ w'.cell? ⟨y70, r, none⟩ = some (.int .i64 z)) (fun _ h => h.1) _ _ _ _ ?_
            refine Rest.take (i := 5) (oi := ⟨some 35, _, _, _, _, _⟩) (v := ?_) rfl (by kernel_rfl) (by kernel_rfl) (by kernel_rfl) (by kernel_rfl) (fun _ _ _ h => h) (Or.inl ⟨by rfl, ?_⟩) (⟨hR.bl, (hR.ow _ (List.mem_cons_self ..)).cells' (c := 3) (by rfl) rfl r _ HZ.out⟩) ?_
            rotate_left
            · intro w' hSw; obtain ⟨hSb', hSp⟩ := hSw; have hSb : Below _ _ _ := hSb'; go_simp; try with_reducible rfl
            try simp only [Act.put, List.setIfInBounds_toArray, List.set]
            refine Rest.take (i := 6) (oi := ⟨some 36, _, _, _, _, _⟩) (v := ?_) rfl (by kernel_rfl) (by kernel_rfl) (by kernel_rfl) (by kernel_rfl) (fun _ _ _ h => h) (Or.inl ⟨by rfl, ?_⟩) (⟨hR.bl, (hR.ow _ (List.mem_cons_self ..)).cells' (c := 3) (by rfl) rfl r _ HZ.out⟩) ?_
            rotate_left
            · intro w' hSw; obtain ⟨hSb', hSp⟩ := hSw; have hSb : Below _ _ _ := hSb'; go_simp; try with_reducible rfl
            try simp only [Act.put, List.setIfInBounds_toArray, List.set]
            refine Rest.take (i := 7) (oi := ⟨some 37, _, _, _, _, _⟩) (v := ?_) rfl (by kernel_rfl) (by kernel_rfl) (by kernel_rfl) (by kernel_rfl) (fun _ _ _ h => h) (Or.inl ⟨by rfl, ?_⟩) (⟨hR.bl, (hR.ow _ (List.mem_cons_self ..)).cells' (c := 3) (by rfl) rfl r _ HZ.out⟩) ?_
            rotate_left
            · intro w' hSw; obtain ⟨hSb', hSp⟩ := hSw; have hSb : Below _ _ _ := hSb'; go_simp; try with_reducible rfl
            try simp only [Act.put, List.setIfInBounds_toArray, List.set]
            refine Rest.three (i := 8) (j := 12) (l := 14) (by kernel_rfl) ?_ ?_ ?_
            · skip
              refine Comes.mk (o := ⟨some 38, _, _, _, _, _⟩) rfl (fun K hK => ?_)
              go_simp
              replace hR := hR.lit 43 5 1 #[.int .i64 z, .int .i64 (-1), .int .i64 0, .int .u64 0, .slice none 0 0] rfl (by decide)
              refine hK.out _ _ (.inr (⟨hR.bl, (hR.ow _ (List.mem_cons_of_mem _ (List.mem_cons_self ..))).cells' (c := 3) (by rfl) rfl r _ HZ.out⟩)) ?_
              clear hK K
              try simp only [List.setIfInBounds_toArray, List.set]
              generalize hy71 : x70.heap.size = y71 at hR ⊢
              generalize (x70.alloc (.cells #[.int .i64 z, .int .i64 (-1), .int .i64 0, .int .u64 0, .slice none 0 0] 43)) = x71 at hR ⊢
              clear hy71
              refine Rest.two (i := 12) (j := 14) (by kernel_rfl) ?_ ?_
              · skip
                refine Comes.mk (o := ⟨some 42, _, _, _, _, _⟩) rfl (fun K hK => ?_)
                replace hR := hR.pull3
                refine step_append_row rfl (.tmp 39) (.tmp 41) 34 43 rfl _ 5 56 Try.underlying34 Try.infoInst5 rfl (by decide) (by decide) (.slice (some ⟨y69, 0, none⟩) 0 0) 0 [] (by rfl) hR.head (.slice Ac (nd + 1) cc) (nd + 1) us (by rfl) (by rw [HGO.out.1, List.length_append, HND.out]; rfl) (HNW.out _ hR.bl) HGO.out.ones (by omega) ?_
                intro v72 x72 ho72 hg72 hat72
                simp only [Nat.zero_add, List.nil_append] at ho72
                replace hR := hR.grow hg72 ho72 hat72
                obtain ⟨A72, c72, rfl⟩ := owns_slice ho72
                clear ho72 hg72 hat72
                refine hK.out _ _ (.inr (⟨hR.bl, (hR.ow _ (List.mem_cons_of_mem _ (List.mem_cons_of_mem _ (List.mem_cons_self ..)))).cells' (c := 3) (by rfl) rfl r _ HZ.out⟩)) ?_
                clear hK K
                try simp only [Act.put, List.setIfInBounds_toArray, List.set]
                refine Rest.one (i := 14) (by kernel_rfl) ?_
                refine Comes.mk (o := ⟨some 44, _, _, _, _, _⟩) rfl (fun K hK => ?_)
                go_simp
                replace hR := hR.lit 43 5 1 #[.int .i64 11, .int .i64 0, .int .i64 0, .int .u64 0, .slice none 0 0] rfl (by decide)
                refine hK.out _ _ (.inr (⟨hR.bl, (hR.ow _ (List.mem_cons_of_mem _ (List.mem_cons_of_mem _ (List.mem_cons_of_mem _ (List.mem_cons_self ..))))).cells' (c := 3) (by rfl) rfl r _ HZ.out⟩)) ?_
                clear hK K
                try simp only [List.setIfInBounds_toArray, List.set]
                generalize hy73 : x72.heap.size = y73 at hR ⊢
                generalize (x72.alloc (.cells #[.int .i64 11, .int .i64 0, .int .i64 0, .int .u64 0, .slice none 0 0] 43)) = x73 at hR ⊢
                clear hy73
                refine Rest.one (i := 15) (by kernel_rfl) ?_
                refine Comes.mk (o := ⟨some 45, _, _, _, _, _⟩) rfl (fun K hK => ?_)
                replace hR := hR.swap
                refine step_append_row rfl (.tmp 42) (.tmp 44) 34 43 rfl _ 5 56 Try.underlying34 Try.infoInst5 rfl (by decide) (by decide) (.slice A72 (nd + 1) c72) (nd + 1) us (by rfl) hR.head (.slice (some ⟨y73, 0, none⟩) 1 1) 1 [.int .i64 11, .int .i64 0, .int .i64 0, .int .u64 0, .slice none 0 0] (by rfl) (by rfl) (owns_news ((hR.ow _ (List.mem_cons_of_mem _ (List.mem_cons_self ..))).own rfl)) (by simp [Value.oneCell']) (by omega) ?_
                intro v74 x74 ho74 hg74 hat74
                replace hR := hR.grow hg74 ho74 hat74
                obtain ⟨A74, c74, rfl⟩ := owns_slice ho74
                clear ho74 hg74 hat74
                refine hK.out _ _ (.inr (⟨hR.bl, (hR.ow _ (List.mem_cons_of_mem _ (List.mem_cons_of_mem _ (List.mem_cons_of_mem _ (List.mem_cons_self ..))))).cells' (c := 3) (by rfl) rfl r _ HZ.out⟩)) ?_
                clear hK K
                try simp only [Act.put, List.setIfInBounds_toArray, List.set]
                refine Rest.one (i := 16) (by kernel_rfl) ?_
                refine Comes.mk (o := ⟨some 46, _, _, _, _, _⟩) rfl (fun K hK => ?_)
                replace hR := hR.pull3
                refine step_append_row rfl (.tmp 38) (.tmp 45) 34 43 rfl _ 5 56 Try.underlying34 Try.infoInst5 rfl (by decide) (by decide) (.slice (some ⟨y71, 0, none⟩) 1 1) 1 [.int .i64 z, .int .i64 (-1), .int .i64 0, .int .u64 0, .slice none 0 0] (by rfl) hR.head (.slice A74 ((nd + 1) + 1) c74) (nd + 1 + 1) (us ++ [.int .i64 11, .int .i64 0, .int .i64 0, .int .u64 0, .slice none 0 0]) (by rfl) (by rw [List.length_append, HGO.out.1, List.length_append, HND.out]; simp only [List.length_cons, List.length_nil]; omega) (owns_news ((hR.ow _ (List.mem_cons_of_mem _ (List.mem_cons_self ..))).own rfl)) (by intro u hu; rcases List.mem_append.1 hu with h | h; (· exact HGO.out.ones u h); (· exact ones11 u h)) (by omega) ?_
                intro v75 x75 ho75 hg75 hat75
                replace hR := hR.grow hg75 ho75 hat75
                obtain ⟨A75, c75, rfl⟩ := owns_slice ho75
                clear ho75 hg75 hat75
                refine hK.out _ _ (.inr (⟨hR.bl, (hR.ow _ (List.mem_cons_of_mem _ (List.mem_cons_of_mem _ (List.mem_cons_of_mem _ (List.mem_cons_self ..))))).cells' (c := 3) (by rfl) rfl r _ HZ.out⟩)) ?_
                clear hK K
                try simp only [Act.put, List.setIfInBounds_toArray, List.set]
                refine Rest.one (i := 17) (by kernel_rfl) ?_
                refine Comes.mk (o := ⟨some 10, _, _, _, _, _⟩) rfl (fun K hK => ?_)
                go_simp
                refine hK.out _ _ (.inl rfl) ?_
                clear hK K
                refine Rest.done (by kernel_rfl) ?_ _
                go_wp2
                go_meet
                exact ⟨_, _, _, by first | rfl | (congr 1; omega), Lib.hid (wraps_row hR.head HGO.out), Lib.hid (HB40.out.trans (hR.bl.mono HB40.out.size))⟩
              · skip
                refine Comes.mk (o := ⟨some 44, _, _, _, _, _⟩) rfl (fun K hK => ?_)
                go_simp
                replace hR := hR.lit 43 5 1 #[.int .i64 11, .int .i64 0, .int .i64 0, .int .u64 0, .slice none 0 0] rfl (by decide)
                refine hK.out _ _ (.inr (⟨hR.bl, (hR.ow _ (List.mem_cons_of_mem _ (List.mem_cons_of_mem _ (List.mem_cons_self ..)))).cells' (c := 3) (by rfl) rfl r _ HZ.out⟩)) ?_
                clear hK K
                try simp only [List.setIfInBounds_toArray, List.set]
                generalize hy76 : x71.heap.size = y76 at hR ⊢
                generalize (x71.alloc (.cells #[.int .i64 11, .int .i64 0, .int .i64 0, .int .u64 0, .slice none 0 0] 43)) = x76 at hR ⊢
                clear hy76
                refine Rest.one (i := 12) (by kernel_rfl) ?_
                refine Comes.mk (o := ⟨some 42, _, _, _, _, _⟩) rfl (fun K hK => ?_)
                replace hR := hR.perm (List.perm_middle (l₁ := [_, _, _])).symm
                refine step_append_row rfl (.tmp 39) (.tmp 41) 34 43 rfl _ 5 56 Try.underlying34 Try.infoInst5 rfl (by decide) (by decide) (.slice (some ⟨y69, 0, none⟩) 0 0) 0 [] (by rfl) hR.head (.slice Ac (nd + 1) cc) (nd + 1) us (by rfl) (by rw [HGO.out.1, List.length_append, HND.out]; rfl) (HNW.out _ hR.bl) HGO.out.ones (by omega) ?_
                intro v77 x77 ho77 hg77 hat77
                simp only [Nat.zero_add, List.nil_append] at ho77
                replace hR := hR.grow hg77 ho77 hat77
                obtain ⟨A77, c77, rfl⟩ := owns_slice ho77
                clear ho77 hg77 hat77
                refine hK.out _ _ (.inr (⟨hR.bl, (hR.ow _ (List.mem_cons_of_mem _ (List.mem_cons_of_mem _ (List.mem_cons_of_mem _ (List.mem_cons_self ..))))).cells' (c := 3) (by rfl) rfl r _ HZ.out⟩)) ?_
                clear hK K
                try simp only [Act.put, List.setIfInBounds_toArray, List.set]
                refine Rest.one (i := 15) (by kernel_rfl) ?_
                refine Comes.mk (o := ⟨some 45, _, _, _, _, _⟩) rfl (fun K hK => ?_)
                refine step_append_row rfl (.tmp 42) (.tmp 44) 34 43 rfl _ 5 56 Try.underlying34 Try.infoInst5 rfl (by decide) (by decide) (.slice A77 (nd + 1) c77) (nd + 1) us (by rfl) hR.head (.slice (some ⟨y76, 0, none⟩) 1 1) 1 [.int .i64 11, .int .i64 0, .int .i64 0, .int .u64 0, .slice none 0 0] (by rfl) (by rfl) (owns_news ((hR.ow _ (List.mem_cons_of_mem _ (List.mem_cons_self ..))).own rfl)) (by simp [Value.oneCell']) (by omega) ?_
                intro v78 x78 ho78 hg78 hat78
                replace hR := hR.grow hg78 ho78 hat78
                obtain ⟨A78, c78, rfl⟩ := owns_slice ho78
                clear ho78 hg78 hat78
                refine hK.out _ _ (.inr (⟨hR.bl, (hR.ow _ (List.mem_cons_of_mem _ (List.mem_cons_of_mem _ (List.mem_cons_of_mem _ (List.mem_cons_self ..))))).cells' (c := 3) (by rfl) rfl r _ HZ.out⟩)) ?_
                clear hK K
                try simp only [Act.put, List.setIfInBounds_toArray, List.set]
                refine Rest.one (i := 16) (by kernel_rfl) ?_
                refine Comes.mk (o := ⟨some 46, _, _, _, _, _⟩) rfl (fun K hK => ?_)
                replace hR := hR.pull3
                refine step_append_row rfl (.tmp 38) (.tmp 45) 34 43 rfl _ 5 56 Try.underlying34 Try.infoInst5 rfl (by decide) (by decide) (.slice (some ⟨y71, 0, none⟩) 1 1) 1 [.int .i64 z, .int .i64 (-1), .int .i64 0, .int .u64 0, .slice none 0 0] (by rfl) hR.head (.slice A78 ((nd + 1) + 1) c78) (nd + 1 + 1) (us ++ [.int .i64 11, .int .i64 0, .int .i64 0, .int .u64 0, .slice none 0 0]) (by rfl) (by rw [List.length_append, HGO.out.1, List.length_append, HND.out]; simp only [List.length_cons, List.length_nil]; omega) (owns_news ((hR.ow _ (List.mem_cons_of_mem _ (List.mem_cons_self ..))).own rfl)) (by intro u hu; rcases List.mem_append.1 hu with h | h; (· exact HGO.out.ones u h); (· exact ones11 u h)) (by omega) ?_
                intro v79 x79 ho79 hg79 hat79
                replace hR := hR.grow hg79 ho79 hat79
                obtain ⟨A79, c79, rfl⟩ := owns_slice ho79
                clear ho79 hg79 hat79
                refine hK.out _ _ (.inr (⟨hR.bl, (hR.ow _ (List.mem_cons_of_mem _ (List.mem_cons_of_mem _ (List.mem_cons_of_mem _ (List.mem_cons_self ..))))).cells' (c := 3) (by rfl) rfl r _ HZ.out⟩)) ?_
                clear hK K
                try simp only [Act.put, List.setIfInBounds_toArray, List.set]
                refine Rest.one (i := 17) (by kernel_rfl) ?_
                refine Comes.mk (o := ⟨some 10, _, _, _, _, _⟩) rfl (fun K hK => ?_)
                go_simp
                refine hK.out _ _ (.inl rfl) ?_
                clear hK K
                refine Rest.done (by kernel_rfl) ?_ _
                go_wp2
                go_meet
                exact ⟨_, _, _, by first | rfl | (congr 1; omega), Lib.hid (wraps_row hR.head HGO.out), Lib.hid (HB40.out.trans (hR.bl.mono HB40.out.size))⟩
            · skip
              refine Comes.mk (o := ⟨some 42, _, _, _, _, _⟩) rfl (fun K hK => ?_)
              replace hR := hR.swap
              refine step_append_row rfl (.tmp 39) (.tmp 41) 34 43 rfl _ 5 56 Try.underlying34 Try.infoInst5 rfl (by decide) (by decide) (.slice (some ⟨y69, 0, none⟩) 0 0) 0 [] (by rfl) hR.head (.slice Ac (nd + 1) cc) (nd + 1) us (by rfl) (by rw [HGO.out.1, List.length_append, HND.out]; rfl) (HNW.out _ hR.bl) HGO.out.ones (by omega) ?_
              intro v80 x80 ho80 hg80 hat80
              simp only [Nat.zero_add, List.nil_append] at ho80
              replace hR := hR.grow hg80 ho80 hat80
              obtain ⟨A80, c80, rfl⟩ := owns_slice ho80
              clear ho80 hg80 hat80
              refine hK.out _ _ (.inr (⟨hR.bl, (hR.ow _ (List.mem_cons_of_mem _ (List.mem_cons_self ..))).cells' (c := 3) (by rfl) rfl r _ HZ.out⟩)) ?_
              clear hK K
              try simp only [Act.put, List.setIfInBounds_toArray, List.set]
              refine Rest.two (i := 8) (j := 14) (by kernel_rfl) ?_ ?_
              · skip
                refine Comes.mk (o := ⟨some 38, _, _, _, _, _⟩) rfl (fun K hK => ?_)
                go_simp
                replace hR := hR.lit 43 5 1 #[.int .i64 z, .int .i64 (-1), .int .i64 0, .int .u64 0, .slice none 0 0] rfl (by decide)
                refine hK.out _ _ (.inr (⟨hR.bl, (hR.ow _ (List.mem_cons_of_mem _ (List.mem_cons_of_mem _ (List.mem_cons_self ..)))).cells' (c := 3) (by rfl) rfl r _ HZ.out⟩)) ?_
                clear hK K
                try simp only [List.setIfInBounds_toArray, List.set]
                generalize hy81 : x80.heap.size = y81 at hR ⊢
                generalize (x80.alloc (.cells #[.int .i64 z, .int .i64 (-1), .int .i64 0, .int .u64 0, .slice none 0 0] 43)) = x81 at hR ⊢
                clear hy81
                refine Rest.one (i := 14) (by kernel_rfl) ?_
                refine Comes.mk (o := ⟨some 44, _, _, _, _, _⟩) rfl (fun K hK => ?_)
                go_simp
                replace hR := hR.lit 43 5 1 #[.int .i64 11, .int .i64 0, .int .i64 0, .int .u64 0, .slice none 0 0] rfl (by decide)
                refine hK.out _ _ (.inr (⟨hR.bl, (hR.ow _ (List.mem_cons_of_mem _ (List.mem_cons_of_mem _ (List.mem_cons_of_mem _ (List.mem_cons_self ..))))).cells' (c := 3) (by rfl) rfl r _ HZ.out⟩)) ?_
                clear hK K
                try simp only [List.setIfInBounds_toArray, List.set]
                generalize hy82 : x81.heap.size = y82 at hR ⊢
                generalize (x81.alloc (.cells #[.int .i64 11, .int .i64 0, .int .i64 0, .int .u64 0, .slice none 0 0] 43)) = x82 at hR ⊢
                clear hy82
                refine Rest.one (i := 15) (by kernel_rfl) ?_
                refine Comes.mk (o := ⟨some 45, _, _, _, _, _⟩) rfl (fun K hK => ?_)
                replace hR := hR.pull3
                refine step_append_row rfl (.tmp 42) (.tmp 44) 34 43 rfl _ 5 56 Try.underlying34 Try.infoInst5 rfl (by decide) (by decide) (.slice A80 (nd + 1) c80) (nd + 1) us (by rfl) hR.head (.slice (some ⟨y82, 0, none⟩) 1 1) 1 [.int .i64 11, .int .i64 0, .int .i64 0, .int .u64 0, .slice none 0 0] (by rfl) (by rfl) (owns_news ((hR.ow _ (List.mem_cons_of_mem _ (List.mem_cons_self ..))).own rfl)) (by simp [Value.oneCell']) (by omega) ?_
                intro v83 x83 ho83 hg83 hat83
                replace hR := hR.grow hg83 ho83 hat83
                obtain ⟨A83, c83, rfl⟩ := owns_slice ho83
                clear ho83 hg83 hat83
                refine hK.out _ _ (.inr (⟨hR.bl, (hR.ow _ (List.mem_cons_of_mem _ (List.mem_cons_of_mem _ (List.mem_cons_of_mem _ (List.mem_cons_self ..))))).cells' (c := 3) (by rfl) rfl r _ HZ.out⟩)) ?_
                clear hK K
                try simp only [Act.put, List.setIfInBounds_toArray, List.set]
                refine Rest.one (i := 16) (by kernel_rfl) ?_
                refine Comes.mk (o := ⟨some 46, _, _, _, _, _⟩) rfl (fun K hK => ?_)
                replace hR := hR.pull3
                refine step_append_row rfl (.tmp 38) (.tmp 45) 34 43 rfl _ 5 56 Try.underlying34 Try.infoInst5 rfl (by decide) (by decide) (.slice (some ⟨y81, 0, none⟩) 1 1) 1 [.int .i64 z, .int .i64 (-1), .int .i64 0, .int .u64 0, .slice none 0 0] (by rfl) hR.head (.slice A83 ((nd + 1) + 1) c83) (nd + 1 + 1) (us ++ [.int .i64 11, .int .i64 0, .int .i64 0, .int .u64 0, .slice none 0 0]) (by rfl) (by rw [List.length_append, HGO.out.1, List.length_append, HND.out]; simp only [List.length_cons, List.length_nil]; omega) (owns_news ((hR.ow _ (List.mem_cons_of_mem _ (List.mem_cons_self ..))).own rfl)) (by intro u hu; rcases List.mem_append.1 hu with h | h; (· exact HGO.out.ones u h); (· exact ones11 u h)) (by omega) ?_
                intro v84 x84 ho84 hg84 hat84
                replace hR := hR.grow hg84 ho84 hat84
                obtain ⟨A84, c84, rfl⟩ := owns_slice ho84
                clear ho84 hg84 hat84
                refine hK.out _ _ (.inr (⟨hR.bl, (hR.ow _ (List.mem_cons_of_mem _ (List.mem_cons_of_mem _ (List.mem_cons_of_mem _ (List.mem_cons_self ..))))).cells' (c := 3) (by rfl) rfl r _ HZ.out⟩)) ?_
                clear hK K
                try simp only [Act.put, List.setIfInBounds_toArray, List.set]
                refine Rest.one (i := 17) (by kernel_rfl) ?_
                refine Comes.mk (o := ⟨some 10, _, _, _, _, _⟩) rfl (fun K hK => ?_)
                go_simp
                refine hK.out _ _ (.inl rfl) ?_
                clear hK K
                refine Rest.done (by kernel_rfl) ?_ _
                go_wp2
                go_meet
                exact ⟨_, _, _, by first | rfl | (congr 1; omega), Lib.hid (wraps_row hR.head HGO.out), Lib.hid (HB40.out.trans (hR.bl.mono HB40.out.size))⟩
              · skip
                refine Comes.mk (o := ⟨some 44, _, _, _, _, _⟩) rfl (fun K hK => ?_)
                go_simp
                replace hR := hR.lit 43 5 1 #[.int .i64 11, .int .i64 0, .int .i64 0, .int .u64 0, .slice none 0 0] rfl (by decide)
                refine hK.out _ _ (.inr (⟨hR.bl, (hR.ow _ (List.mem_cons_of_mem _ (List.mem_cons_of_mem _ (List.mem_cons_self ..)))).cells' (c := 3) (by rfl) rfl r _ HZ.out⟩)) ?_
                clear hK K
                try simp only [List.setIfInBounds_toArray, List.set]
                generalize hy85 : x80.heap.size = y85 at hR ⊢
                generalize (x80.alloc (.cells #[.int .i64 11, .int .i64 0, .int .i64 0, .int .u64 0, .slice none 0 0] 43)) = x85 at hR ⊢
                clear hy85
                refine Rest.two (i := 8) (j := 15) (by kernel_rfl) ?_ ?_
                · skip
                  refine Comes.mk (o := ⟨some 38, _, _, _, _, _⟩) rfl (fun K hK => ?_)
                  go_simp
                  replace hR := hR.lit 43 5 1 #[.int .i64 z, .int .i64 (-1), .int .i64 0, .int .u64 0, .slice none 0 0] rfl (by decide)
                  refine hK.out _ _ (.inr (⟨hR.bl, (hR.ow _ (List.mem_cons_of_mem _ (List.mem_cons_of_mem _ (List.mem_cons_of_mem _ (List.mem_cons_self ..))))).cells' (c := 3) (by rfl) rfl r _ HZ.out⟩)) ?_
                  clear hK K
                  try simp only [List.setIfInBounds_toArray, List.set]
                  generalize hy86 : x85.heap.size = y86 at hR ⊢
                  generalize (x85.alloc (.cells #[.int .i64 z, .int .i64 (-1), .int .i64 0, .int .u64 0, .slice none 0 0] 43)) = x86 at hR ⊢
                  clear hy86
                  refine Rest.one (i := 15) (by kernel_rfl) ?_
                  refine Comes.mk (o := ⟨some 45, _, _, _, _, _⟩) rfl (fun K hK => ?_)
                  replace hR := hR.pull3
                  refine step_append_row rfl (.tmp 42) (.tmp 44) 34 43 rfl _ 5 56 Try.underlying34 Try.infoInst5 rfl (by decide) (by decide) (.slice A80 (nd + 1) c80) (nd + 1) us (by rfl) hR.head (.slice (some ⟨y85, 0, none⟩) 1 1) 1 [.int .i64 11, .int .i64 0, .int .i64 0, .int .u64 0, .slice none 0 0] (by rfl) (by rfl) (owns_news ((hR.ow _ (List.mem_cons_of_mem _ (List.mem_cons_of_mem _ (List.mem_cons_self ..)))).own rfl)) (by simp [Value.oneCell']) (by omega) ?_
                  intro v87 x87 ho87 hg87 hat87
                  replace hR := hR.grow hg87 ho87 hat87
                  obtain ⟨A87, c87, rfl⟩ := owns_slice ho87
                  clear ho87 hg87 hat87
                  refine hK.out _ _ (.inr (⟨hR.bl, (hR.ow _ (List.mem_cons_of_mem _ (List.mem_cons_of_mem _ (List.mem_cons_of_mem _ (List.mem_cons_self ..))))).cells' (c := 3) (by rfl) rfl r _ HZ.out⟩)) ?_
                  clear hK K
                  try simp only [Act.put, List.setIfInBounds_toArray, List.set]
                  refine Rest.one (i := 16) (by kernel_rfl) ?_
                  refine Comes.mk (o := ⟨some 46, _, _, _, _, _⟩) rfl (fun K hK => ?_)
                  replace hR := hR.swap
                  refine step_append_row rfl (.tmp 38) (.tmp 45) 34 43 rfl _ 5 56 Try.underlying34 Try.infoInst5 rfl (by decide) (by decide) (.slice (some ⟨y86, 0, none⟩) 1 1) 1 [.int .i64 z, .int .i64 (-1), .int .i64 0, .int .u64 0, .slice none 0 0] (by rfl) hR.head (.slice A87 ((nd + 1) + 1) c87) (nd + 1 + 1) (us ++ [.int .i64 11, .int .i64 0, .int .i64 0, .int .u64 0, .slice none 0 0]) (by rfl) (by rw [List.length_append, HGO.out.1, List.length_append, HND.out]; simp only [List.length_cons, List.length_nil]; omega) (owns_news ((hR.ow _ (List.mem_cons_of_mem _ (List.mem_cons_self ..))).own rfl)) (by intro u hu; rcases List.mem_append.1 hu with h | h; (· exact HGO.out.ones u h); (· exact ones11 u h)) (by omega) ?_
                  intro v88 x88 ho88 hg88 hat88
                  replace hR := hR.grow hg88 ho88 hat88
                  obtain ⟨A88, c88, rfl⟩ := owns_slice ho88
                  clear ho88 hg88 hat88
                  refine hK.out _ _ (.inr (⟨hR.bl, (hR.ow _ (List.mem_cons_of_mem _ (List.mem_cons_of_mem _ (List.mem_cons_of_mem _ (List.mem_cons_self ..))))).cells' (c := 3) (by rfl) rfl r _ HZ.out⟩)) ?_
                  clear hK K
                  try simp only [Act.put, List.setIfInBounds_toArray, List.set]
                  refine Rest.one (i := 17) (by kernel_rfl) ?_
                  refine Comes.mk (o := ⟨some 10, _, _, _, _, _⟩) rfl (fun K hK => ?_)
                  go_simp
                  refine hK.out _ _ (.inl rfl) ?_
                  clear hK K
                  refine Rest.done (by kernel_rfl) ?_ _
                  go_wp2
                  go_meet
                  exact ⟨_, _, _, by first | rfl | (congr 1; omega), Lib.hid (wraps_row hR.head HGO.out), Lib.hid (HB40.out.trans (hR.bl.mono HB40.out.size))⟩
                · skip
                  refine Comes.mk (o := ⟨some 45, _, _, _, _, _⟩) rfl (fun K hK => ?_)
                  replace hR := hR.swap
                  refine step_append_row rfl (.tmp 42) (.tmp 44) 34 43 rfl _ 5 56 Try.underlying34 Try.infoInst5 rfl (by decide) (by decide) (.slice A80 (nd + 1) c80) (nd + 1) us (by rfl) hR.head (.slice (some ⟨y85, 0, none⟩) 1 1) 1 [.int .i64 11, .int .i64 0, .int .i64 0, .int .u64 0, .slice none 0 0] (by rfl) (by rfl) (owns_news ((hR.ow _ (List.mem_cons_of_mem _ (List.mem_cons_self ..))).own rfl)) (by simp [Value.oneCell']) (by omega) ?_
                  intro v89 x89 ho89 hg89 hat89
                  replace hR := hR.grow hg89 ho89 hat89
                  obtain ⟨A89, c89, rfl⟩ := owns_slice ho89
                  clear ho89 hg89 hat89
                  refine hK.out _ _ (.inr (⟨hR.bl, (hR.ow _ (List.mem_cons_of_mem _ (List.mem_cons_of_mem _ (List.mem_cons_self ..)))).cells' (c := 3) (by rfl) rfl r _ HZ.out⟩)) ?_
                  clear hK K
                  try simp only [Act.put, List.setIfInBounds_toArray, List.set]
                  refine Rest.one (i := 8) (by kernel_rfl) ?_
                  refine Comes.mk (o := ⟨some 38, _, _, _, _, _⟩) rfl (fun K hK => ?_)
                  go_simp
                  replace hR := hR.lit 43 5 1 #[.int .i64 z, .int .i64 (-1), .int .i64 0, .int .u64 0, .slice none 0 0] rfl (by decide)
                  refine hK.out _ _ (.inr (⟨hR.bl, (hR.ow _ (List.mem_cons_of_mem _ (List.mem_cons_of_mem _ (List.mem_cons_of_mem _ (List.mem_cons_self ..))))).cells' (c := 3) (by rfl) rfl r _ HZ.out⟩)) ?_
                  clear hK K
                  try simp only [List.setIfInBounds_toArray, List.set]
                  generalize hy90 : x89.heap.size = y90 at hR ⊢
                  generalize (x89.alloc (.cells #[.int .i64 z, .int .i64 (-1), .int .i64 0, .int .u64 0, .slice none 0 0] 43)) = x90 at hR ⊢
                  clear hy90
                  refine Rest.one (i := 16) (by kernel_rfl) ?_
                  refine Comes.mk (o := ⟨some 46, _, _, _, _, _⟩) rfl (fun K hK => ?_)
                  refine step_append_row rfl (.tmp 38) (.tmp 45) 34 43 rfl _ 5 56 Try.underlying34 Try.infoInst5 rfl (by decide) (by decide) (.slice (some ⟨y90, 0, none⟩) 1 1) 1 [.int .i64 z, .int .i64 (-1), .int .i64 0, .int .u64 0, .slice none 0 0] (by rfl) hR.head (.slice A89 ((nd + 1) + 1) c89) (nd + 1 + 1) (us ++ [.int .i64 11, .int .i64 0, .int .i64 0, .int .u64 0, .slice none 0 0]) (by rfl) (by rw [List.length_append, HGO.out.1, List.length_append, HND.out]; simp only [List.length_cons, List.length_nil]; omega) (owns_news ((hR.ow _ (List.mem_cons_of_mem _ (List.mem_cons_self ..))).own rfl)) (by intro u hu; rcases List.mem_append.1 hu with h | h; (· exact HGO.out.ones u h); (· exact ones11 u h)) (by omega) ?_
                  intro v91 x91 ho91 hg91 hat91
                  replace hR := hR.grow hg91 ho91 hat91
                  obtain ⟨A91, c91, rfl⟩ := owns_slice ho91
                  clear ho91 hg91 hat91
                  refine hK.out _ _ (.inr (⟨hR.bl, (hR.ow _ (List.mem_cons_of_mem _ (List.mem_cons_of_mem _ (List.mem_cons_of_mem _ (List.mem_cons_self ..))))).cells' (c := 3) (by rfl) rfl r _ HZ.out⟩)) ?_
                  clear hK K
                  try simp only [Act.put, List.setIfInBounds_toArray, List.set]
                  refine Rest.one (i := 17) (by kernel_rfl) ?_
                  refine Comes.mk (o := ⟨some 10, _, _, _, _, _⟩) rfl (fun K hK => ?_)
                  go_simp
                  refine hK.out _ _ (.inl rfl) ?_
                  clear hK K
                  refine Rest.done (by kernel_rfl) ?_ _
                  go_wp2
                  go_meet
                  exact ⟨_, _, _, by first | rfl | (congr 1; omega), Lib.hid (wraps_row hR.head HGO.out), Lib.hid (HB40.out.trans (hR.bl.mono HB40.out.size))⟩
            · skip
              refine Comes.mk (o := ⟨some 44, _, _, _, _, _⟩) rfl (fun K hK => ?_)
              go_simp
              replace hR := hR.lit 43 5 1 #[.int .i64 11, .int .i64 0, .int .i64 0, .int .u64 0, .slice none 0 0] rfl (by decide)
              refine hK.out _ _ (.inr (⟨hR.bl, (hR.ow _ (List.mem_cons_of_mem _ (List.mem_cons_self ..))).cells' (c := 3) (by rfl) rfl r _ HZ.out⟩)) ?_
              clear hK K
              try simp only [List.setIfInBounds_toArray, List.set]
              generalize hy92 : x70.heap.size = y92 at hR ⊢
              generalize (x70.alloc (.cells #[.int .i64 11, .int .i64 0, .int .i64 0, .int .u64 0, .slice none 0 0] 43)) = x92 at hR ⊢
              clear hy92
              refine Rest.two (i := 8) (j := 12) (by kernel_rfl) ?_ ?_
              · skip
                refine Comes.mk (o := ⟨some 38, _, _, _, _, _⟩) rfl (fun K hK => ?_)
                go_simp
                replace hR := hR.lit 43 5 1 #[.int .i64 z, .int .i64 (-1), .int .i64 0, .int .u64 0, .slice none 0 0] rfl (by decide)
                refine hK.out _ _ (.inr (⟨hR.bl, (hR.ow _ (List.mem_cons_of_mem _ (List.mem_cons_of_mem _ (List.mem_cons_self ..)))).cells' (c := 3) (by rfl) rfl r _ HZ.out⟩)) ?_
                clear hK K
                try simp only [List.setIfInBounds_toArray, List.set]
                generalize hy93 : x92.heap.size = y93 at hR ⊢
                generalize (x92.alloc (.cells #[.int .i64 z, .int .i64 (-1), .int .i64 0, .int .u64 0, .slice none 0 0] 43)) = x93 at hR ⊢
                clear hy93
                refine Rest.one (i := 12) (by kernel_rfl) ?_
                refine Comes.mk (o := ⟨some 42, _, _, _, _, _⟩) rfl (fun K hK => ?_)
                replace hR := hR.perm (List.perm_middle (l₁ := [_, _, _])).symm
                refine step_append_row rfl (.tmp 39) (.tmp 41) 34 43 rfl _ 5 56 Try.underlying34 Try.infoInst5 rfl (by decide) (by decide) (.slice (some ⟨y69, 0, none⟩) 0 0) 0 [] (by rfl) hR.head (.slice Ac (nd + 1) cc) (nd + 1) us (by rfl) (by rw [HGO.out.1, List.length_append, HND.out]; rfl) (HNW.out _ hR.bl) HGO.out.ones (by omega) ?_
                intro v94 x94 ho94 hg94 hat94
                simp only [Nat.zero_add, List.nil_append] at ho94
                replace hR := hR.grow hg94 ho94 hat94
                obtain ⟨A94, c94, rfl⟩ := owns_slice ho94
                clear ho94 hg94 hat94
                refine hK.out _ _ (.inr (⟨hR.bl, (hR.ow _ (List.mem_cons_of_mem _ (List.mem_cons_of_mem _ (List.mem_cons_of_mem _ (List.mem_cons_self ..))))).cells' (c := 3) (by rfl) rfl r _ HZ.out⟩)) ?_
                clear hK K
                try simp only [Act.put, List.setIfInBounds_toArray, List.set]
                refine Rest.one (i := 15) (by kernel_rfl) ?_
                refine Comes.mk (o := ⟨some 45, _, _, _, _, _⟩) rfl (fun K hK => ?_)
                refine step_append_row rfl (.tmp 42) (.tmp 44) 34 43 rfl _ 5 56 Try.underlying34 Try.infoInst5 rfl (by decide) (by decide) (.slice A94 (nd + 1) c94) (nd + 1) us (by rfl) hR.head (.slice (some ⟨y92, 0, none⟩) 1 1) 1 [.int .i64 11, .int .i64 0, .int .i64 0, .int .u64 0, .slice none 0 0] (by rfl) (by rfl) (owns_news ((hR.ow _ (List.mem_cons_of_mem _ (List.mem_cons_of_mem _ (List.mem_cons_self ..)))).own rfl)) (by simp [Value.oneCell']) (by omega) ?_
                intro v95 x95 ho95 hg95 hat95
                replace hR := hR.grow hg95 ho95 hat95
                obtain ⟨A95, c95, rfl⟩ := owns_slice ho95
                clear ho95 hg95 hat95
                refine hK.out _ _ (.inr (⟨hR.bl, (hR.ow _ (List.mem_cons_of_mem _ (List.mem_cons_of_mem _ (List.mem_cons_of_mem _ (List.mem_cons_self ..))))).cells' (c := 3) (by rfl) rfl r _ HZ.out⟩)) ?_
                clear hK K
                try simp only [Act.put, List.setIfInBounds_toArray, List.set]
                refine Rest.one (i := 16) (by kernel_rfl) ?_
                refine Comes.mk (o := ⟨some 46, _, _, _, _, _⟩) rfl (fun K hK => ?_)
                replace hR := hR.swap
                refine step_append_row rfl (.tmp 38) (.tmp 45) 34 43 rfl _ 5 56 Try.underlying34 Try.infoInst5 rfl (by decide) (by decide) (.slice (some ⟨y93, 0, none⟩) 1 1) 1 [.int .i64 z, .int .i64 (-1), .int .i64 0, .int .u64 0, .slice none 0 0] (by rfl) hR.head (.slice A95 ((nd + 1) + 1) c95) (nd + 1 + 1) (us ++ [.int .i64 11, .int .i64 0, .int .i64 0, .int .u64 0, .slice none 0 0]) (by rfl) (by rw [List.length_append, HGO.out.1, List.length_append, HND.out]; simp only [List.length_cons, List.length_nil]; omega) (owns_news ((hR.ow _ (List.mem_cons_of_mem _ (List.mem_cons_self ..))).own rfl)) (by intro u hu; rcases List.mem_append.1 hu with h | h; (· exact HGO.out.ones u h); (· exact ones11 u h)) (by omega) ?_
                intro v96 x96 ho96 hg96 hat96
                replace hR := hR.grow hg96 ho96 hat96
                obtain ⟨A96, c96, rfl⟩ := owns_slice ho96
                clear ho96 hg96 hat96
                refine hK.out _ _ (.inr (⟨hR.bl, (hR.ow _ (List.mem_cons_of_mem _ (List.mem_cons_of_mem _ (List.mem_cons_of_mem _ (List.mem_cons_self ..))))).cells' (c := 3) (by rfl) rfl r _ HZ.out⟩)) ?_
                clear hK K
                try simp only [Act.put, List.setIfInBounds_toArray, List.set]
                refine Rest.one (i := 17) (by kernel_rfl) ?_
                refine Comes.mk (o := ⟨some 10, _, _, _, _, _⟩) rfl (fun K hK => ?_)
                go_simp
                refine hK.out _ _ (.inl rfl) ?_
                clear hK K
                refine Rest.done (by kernel_rfl) ?_ _
                go_wp2
                go_meet
                exact ⟨_, _, _, by first | rfl | (congr 1; omega), Lib.hid (wraps_row hR.head HGO.out), Lib.hid (HB40.out.trans (hR.bl.mono HB40.out.size))⟩
              · skip
                refine Comes.mk (o := ⟨some 42, _, _, _, _, _⟩) rfl (fun K hK => ?_)
                replace hR := hR.pull3
                refine step_append_row rfl (.tmp 39) (.tmp 41) 34 43 rfl _ 5 56 Try.underlying34 Try.infoInst5 rfl (by decide) (by decide) (.slice (some ⟨y69, 0, none⟩) 0 0) 0 [] (by rfl) hR.head (.slice Ac (nd + 1) cc) (nd + 1) us (by rfl) (by rw [HGO.out.1, List.length_append, HND.out]; rfl) (HNW.out _ hR.bl) HGO.out.ones (by omega) ?_
                intro v97 x97 ho97 hg97 hat97
                simp only [Nat.zero_add, List.nil_append] at ho97
                replace hR := hR.grow hg97 ho97 hat97
                obtain ⟨A97, c97, rfl⟩ := owns_slice ho97
                clear ho97 hg97 hat97
                refine hK.out _ _ (.inr (⟨hR.bl, (hR.ow _ (List.mem_cons_of_mem _ (List.mem_cons_of_mem _ (List.mem_cons_self ..)))).cells' (c := 3) (by rfl) rfl r _ HZ.out⟩)) ?_
                clear hK K
                try simp only [Act.put, List.setIfInBounds_toArray, List.set]
                refine Rest.two (i := 8) (j := 15) (by kernel_rfl) ?_ ?_
                · skip
                  refine Comes.mk (o := ⟨some 38, _, _, _, _, _⟩) rfl (fun K hK => ?_)
                  go_simp
                  replace hR := hR.lit 43 5 1 #[.int .i64 z, .int .i64 (-1), .int .i64 0, .int .u64 0, .slice none 0 0] rfl (by decide)
                  refine hK.out _ _ (.inr (⟨hR.bl, (hR.ow _ (List.mem_cons_of_mem _ (List.mem_cons_of_mem _ (List.mem_cons_of_mem _ (List.mem_cons_self ..))))).cells' (c := 3) (by rfl) rfl r _ HZ.out⟩)) ?_
                  clear hK K
                  try simp only [List.setIfInBounds_toArray, List.set]
                  generalize hy98 : x97.heap.size = y98 at hR ⊢
                  generalize (x97.alloc (.cells #[.int .i64 z, .int .i64 (-1), .int .i64 0, .int .u64 0, .slice none 0 0] 43)) = x98 at hR ⊢
                  clear hy98
                  refine Rest.one (i := 15) (by kernel_rfl) ?_
                  refine Comes.mk (o := ⟨some 45, _, _, _, _, _⟩) rfl (fun K hK => ?_)
                  replace hR := hR.swap
                  refine step_append_row rfl (.tmp 42) (.tmp 44) 34 43 rfl _ 5 56 Try.underlying34 Try.infoInst5 rfl (by decide) (by decide) (.slice A97 (nd + 1) c97) (nd + 1) us (by rfl) hR.head (.slice (some ⟨y92, 0, none⟩) 1 1) 1 [.int .i64 11, .int .i64 0, .int .i64 0, .int .u64 0, .slice none 0 0] (by rfl) (by rfl) (owns_news ((hR.ow _ (List.mem_cons_of_mem _ (List.mem_cons_of_mem _ (List.mem_cons_self ..)))).own rfl)) (by simp [Value.oneCell']) (by omega) ?_
                  intro v99 x99 ho99 hg99 hat99
                  replace hR := hR.grow hg99 ho99 hat99
                  obtain ⟨A99, c99, rfl⟩ := owns_slice ho99
                  clear ho99 hg99 hat99
                  refine hK.out _ _ (.inr (⟨hR.bl, (hR.ow _ (List.mem_cons_of_mem _ (List.mem_cons_of_mem _ (List.mem_cons_of_mem _ (List.mem_cons_self ..))))).cells' (c := 3) (by rfl) rfl r _ HZ.out⟩)) ?_
                  clear hK K
                  try simp only [Act.put, List.setIfInBounds_toArray, List.set]
                  refine Rest.one (i := 16) (by kernel_rfl) ?_
                  refine Comes.mk (o := ⟨some 46, _, _, _, _, _⟩) rfl (fun K hK => ?_)
                  replace hR := hR.swap
                  refine step_append_row rfl (.tmp 38) (.tmp 45) 34 43 rfl _ 5 56 Try.underlying34 Try.infoInst5 rfl (by decide) (by decide) (.slice (some ⟨y98, 0, none⟩) 1 1) 1 [.int .i64 z, .int .i64 (-1), .int .i64 0, .int .u64 0, .slice none 0 0] (by rfl) hR.head (.slice A99 ((nd + 1) + 1) c99) (nd + 1 + 1) (us ++ [.int .i64 11, .int .i64 0, .int .i64 0, .int .u64 0, .slice none 0 0]) (by rfl) (by rw [List.length_append, HGO.out.1, List.length_append, HND.out]; simp only [List.length_cons, List.length_nil]; omega) (owns_news ((hR.ow _ (List.mem_cons_of_mem _ (List.mem_cons_self ..))).own rfl)) (by intro u hu; rcases List.mem_append.1 hu with h | h; (· exact HGO.out.ones u h); (· exact ones11 u h)) (by omega) ?_
                  intro v100 x100 ho100 hg100 hat100
                  replace hR := hR.grow hg100 ho100 hat100
                  obtain ⟨A100, c100, rfl⟩ := owns_slice ho100
                  clear ho100 hg100 hat100
                  refine hK.out _ _ (.inr (⟨hR.bl, (hR.ow _ (List.mem_cons_of_mem _ (List.mem_cons_of_mem _ (List.mem_cons_of_mem _ (List.mem_cons_self ..))))).cells' (c := 3) (by rfl) rfl r _ HZ.out⟩)) ?_
                  clear hK K
                  try simp only [Act.put, List.setIfInBounds_toArray, List.set]
                  refine Rest.one (i := 17) (by kernel_rfl) ?_
                  refine Comes.mk (o := ⟨some 10, _, _, _, _, _⟩) rfl (fun K hK => ?_)
                  go_simp
                  refine hK.out _ _ (.inl rfl) ?_
                  clear hK K
                  refine Rest.done (by kernel_rfl) ?_ _
                  go_wp2
                  go_meet
                  exact ⟨_, _, _, by first | rfl | (congr 1; omega), Lib.hid (wraps_row hR.head HGO.out), Lib.hid (HB40.out.trans (hR.bl.mono HB40.out.size))⟩
                · skip
                  refine Comes.mk (o := ⟨some 45, _, _, _, _, _⟩) rfl (fun K hK => ?_)
                  refine step_append_row rfl (.tmp 42) (.tmp 44) 34 43 rfl _ 5 56 Try.underlying34 Try.infoInst5 rfl (by decide) (by decide) (.slice A97 (nd + 1) c97) (nd + 1) us (by rfl) hR.head (.slice (some ⟨y92, 0, none⟩) 1 1) 1 [.int .i64 11, .int .i64 0, .int .i64 0, .int .u64 0, .slice none 0 0] (by rfl) (by rfl) (owns_news ((hR.ow _ (List.mem_cons_of_mem _ (List.mem_cons_self ..))).own rfl)) (by simp [Value.oneCell']) (by omega) ?_
                  intro v101 x101 ho101 hg101 hat101
                  replace hR := hR.grow hg101 ho101 hat101
                  obtain ⟨A101, c101, rfl⟩ := owns_slice ho101
                  clear ho101 hg101 hat101
                  refine hK.out _ _ (.inr (⟨hR.bl, (hR.ow _ (List.mem_cons_of_mem _ (List.mem_cons_of_mem _ (List.mem_cons_self ..)))).cells' (c := 3) (by rfl) rfl r _ HZ.out⟩)) ?_
                  clear hK K
                  try simp only [Act.put, List.setIfInBounds_toArray, List.set]
                  refine Rest.one (i := 8) (by kernel_rfl) ?_
                  refine Comes.mk (o := ⟨some 38, _, _, _, _, _⟩) rfl (fun K hK => ?_)
                  go_simp
                  replace hR := hR.lit 43 5 1 #[.int .i64 z, .int .i64 (-1), .int .i64 0, .int .u64 0, .slice none 0 0] rfl (by decide)
                  refine hK.out _ _ (.inr (⟨hR.bl, (hR.ow _ (List.mem_cons_of_mem _ (List.mem_cons_of_mem _ (List.mem_cons_of_mem _ (List.mem_cons_self ..))))).cells' (c := 3) (by rfl) rfl r _ HZ.out⟩)) ?_
                  clear hK K
                  try simp only [List.setIfInBounds_toArray, List.set]
                  generalize hy102 : x101.heap.size = y102 at hR ⊢
                  generalize (x101.alloc (.cells #[.int .i64 z, .int .i64 (-1), .int .i64 0, .int .u64 0, .slice none 0 0] 43)) = x102 at hR ⊢
                  clear hy102
                  refine Rest.one (i := 16) (by kernel_rfl) ?_
                  refine Comes.mk (o := ⟨some 46, _, _, _, _, _⟩) rfl (fun K hK => ?_)
                  refine step_append_row rfl (.tmp 38) (.tmp 45) 34 43 rfl _ 5 56 Try.underlying34 Try.infoInst5 rfl (by decide) (by decide) (.slice (some ⟨y102, 0, none⟩) 1 1) 1 [.int .i64 z, .int .i64 (-1), .int .i64 0, .int .u64 0, .slice none 0 0] (by rfl) hR.head (.slice A101 ((nd + 1) + 1) c101) (nd + 1 + 1) (us ++ [.int .i64 11, .int .i64 0, .int .i64 0, .int .u64 0, .slice none 0 0]) (by rfl) (by rw [List.length_append, HGO.out.1, List.length_append, HND.out]; simp only [List.length_cons, List.length_nil]; omega) (owns_news ((hR.ow _ (List.mem_cons_of_mem _ (List.mem_cons_self ..))).own rfl)) (by intro u hu; rcases List.mem_append.1 hu with h | h; (· exact HGO.out.ones u h); (· exact ones11 u h)) (by omega) ?_
                  intro v103 x103 ho103 hg103 hat103
                  replace hR := hR.grow hg103 ho103 hat103
                  obtain ⟨A103, c103, rfl⟩ := owns_slice ho103
                  clear ho103 hg103 hat103
                  refine hK.out _ _ (.inr (⟨hR.bl, (hR.ow _ (List.mem_cons_of_mem _ (List.mem_cons_of_mem _ (List.mem_cons_of_mem _ (List.mem_cons_self ..))))).cells' (c := 3) (by rfl) rfl r _ HZ.out⟩)) ?_
                  clear hK K
                  try simp only [Act.put, List.setIfInBounds_toArray, List.set]
                  refine Rest.one (i := 17) (by kernel_rfl) ?_
                  refine Comes.mk (o := ⟨some 10, _, _, _, _, _⟩) rfl (fun K hK => ?_)
                  go_simp
                  refine hK.out _ _ (.inl rfl) ?_
                  clear hK K
                  refine Rest.done (by kernel_rfl) ?_ _
                  go_wp2
                  go_meet
                  exact ⟨_, _, _, by first | rfl | (congr 1; omega), Lib.hid (wraps_row hR.head HGO.out), Lib.hid (HB40.out.trans (hR.bl.mono HB40.out.size))⟩
          · skip
            refine Comes.mk (o := ⟨some 42, _, _, _, _, _⟩) rfl (fun K hK => ?_)
            refine step_append_row rfl (.tmp 39) (.tmp 41) 34 43 rfl _ 5 56 Try.underlying34 Try.infoInst5 rfl (by decide) (by decide) (.slice (some ⟨y69, 0, none⟩) 0 0) 0 [] (by rfl) hR.head (.slice Ac (nd + 1) cc) (nd + 1) us (by rfl) (by rw [HGO.out.1, List.length_append, HND.out]; rfl) (HNW.out _ hR.bl) HGO.out.ones (by omega) ?_
            intro v104 x104 ho104 hg104 hat104
            simp only [Nat.zero_add, List.nil_append] at ho104
            replace hR := hR.grow hg104 ho104 hat104
            obtain ⟨A104, c104, rfl⟩ := owns_slice ho104
            clear ho104 hg104 hat104
            refine hK.out _ _ (.inr (hR.bl)) ?_
            clear hK K
            try simp only [Act.put, List.setIfInBounds_toArray, List.set]
            refine Rest.two (i := 0) (j := 14) (by kernel_rfl) ?_ ?_
            · skip
              refine Comes.mk (o := ⟨some 30, _, _, _, _, _⟩) rfl (fun K hK => ?_)
              go_simp
              replace hR := hR.lit 3 1 3 #[.int .i64 2, .int .i64 3, .int .i64 4] rfl (by decide)
              refine hK.out _ _ (.inr (hR.bl)) ?_
              clear hK K
              try simp only [List.setIfInBounds_toArray, List.set]
              generalize hy105 : x104.heap.size = y105 at hR ⊢
              generalize (x104.alloc (.cells #[.int .i64 2, .int .i64 3, .int .i64 4] 3)) = x105 at hR ⊢
              clear hy105
              refine Rest.strong (S' := fun w' => Bel w4 w' ∧ w'.cell? ⟨y105, r, none⟩ = some (.int .i64 z)) (fun _ h => h.1) _ _ _ _ ?_
              refine Rest.take (i := 5) (oi := ⟨some 35, _, _, _, _, _⟩) (v := ?_) rfl (by kernel_rfl) (by kernel_rfl) (by kernel_rfl) (by kernel_rfl) (fun _ _ _ h => h) (Or.inl ⟨by rfl, ?_⟩) (⟨hR.bl, (hR.ow _ (List.mem_cons_self ..)).cells' (c := 3) (by rfl) rfl r _ HZ.out⟩) ?_
              rotate_left
              · intro w' hSw; obtain ⟨hSb', hSp⟩ := hSw; have hSb : Below _ _ _ := hSb'; go_simp; try with_reducible rfl
              try simp only [Act.put, List.setIfInBounds_toArray, List.set]
              refine Rest.take (i := 6) (oi := ⟨some 36, _, _, _, _, _⟩) (v := ?_) rfl (by kernel_rfl) (by kernel_rfl) (by kernel_rfl) (by kernel_rfl) (fun _ _ _ h => h) (Or.inl ⟨by rfl, ?_⟩) (⟨hR.bl, (hR.ow _ (List.mem_cons_self ..)).cells' (c := 3) (by rfl) rfl r _ HZ.out⟩) ?_
              rotate_left
              · intro w' hSw; obtain ⟨hSb', hSp⟩ := hSw; have hSb : Below _ _ _ := hSb'; go_simp; try with_reducible rfl
              try simp only [Act.put, List.setIfInBounds_toArray, List.set]
              refine Rest.take (i := 7) (oi := ⟨some 37, _, _, _, _, _⟩) (v := ?_) rfl (by kernel_rfl) (by kernel_rfl) (by kernel_rfl) (by kernel_rfl) (fun _ _ _ h => h) (Or.inl ⟨by rfl, ?_⟩) (⟨hR.bl, (hR.ow _ (List.mem_cons_self ..)).cells' (c := 3) (by rfl) rfl r _ HZ.out⟩) ?_
              rotate_left
              · intro w' hSw; obtain ⟨hSb', hSp⟩ := hSw; have hSb : Below _ _ _ := hSb'; go_simp; try with_reducible rfl
              try simp only [Act.put, List.setIfInBounds_toArray, List.set]
              refine Rest.two (i := 8) (j := 14) (by kernel_rfl) ?_ ?_
              · skip
                refine Comes.mk (o := ⟨some 38, _, _, _, _, _⟩) rfl (fun K hK => ?_)
                go_simp
                replace hR := hR.lit 43 5 1 #[.int .i64 z, .int .i64 (-1), .int .i64 0, .int .u64 0, .slice none 0 0] rfl (by decide)
                refine hK.out _ _ (.inr (⟨hR.bl, (hR.ow _ (List.mem_cons_of_mem _ (List.mem_cons_self ..))).cells' (c := 3) (by rfl) rfl r _ HZ.out⟩)) ?_
                clear hK K
                try simp only [List.setIfInBounds_toArray, List.set]
                generalize hy106 : x105.heap.size = y106 at hR ⊢
                generalize (x105.alloc (.cells #[.int .i64 z, .int .i64 (-1), .int .i64 0, .int .u64 0, .slice none 0 0] 43)) = x106 at hR ⊢
                clear hy106
                refine Rest.one (i := 14) (by kernel_rfl) ?_
                refine Comes.mk (o := ⟨some 44, _, _, _, _, _⟩) rfl (fun K hK => ?_)
                go_simp
                replace hR := hR.lit 43 5 1 #[.int .i64 11, .int .i64 0, .int .i64 0, .int .u64 0, .slice none 0 0] rfl (by decide)
                refine hK.out _ _ (.inr (⟨hR.bl, (hR.ow _ (List.mem_cons_of_mem _ (List.mem_cons_of_mem _ (List.mem_cons_self ..)))).cells' (c := 3) (by rfl) rfl r _ HZ.out⟩)) ?_
                clear hK K
                try simp only [List.setIfInBounds_toArray, List.set]
                generalize hy107 : x106.heap.size = y107 at hR ⊢
                generalize (x106.alloc (.cells #[.int .i64 11, .int .i64 0, .int .i64 0, .int .u64 0, .slice none 0 0] 43)) = x107 at hR ⊢
                clear hy107
                refine Rest.one (i := 15) (by kernel_rfl) ?_
                refine Comes.mk (o := ⟨some 45, _, _, _, _, _⟩) rfl (fun K hK => ?_)
                replace hR := hR.perm (List.perm_middle (l₁ := [_, _, _])).symm
                refine step_append_row rfl (.tmp 42) (.tmp 44) 34 43 rfl _ 5 56 Try.underlying34 Try.infoInst5 rfl (by decide) (by decide) (.slice A104 (nd + 1) c104) (nd + 1) us (by rfl) hR.head (.slice (some ⟨y107, 0, none⟩) 1 1) 1 [.int .i64 11, .int .i64 0, .int .i64 0, .int .u64 0, .slice none 0 0] (by rfl) (by rfl) (owns_news ((hR.ow _ (List.mem_cons_of_mem _ (List.mem_cons_self ..))).own rfl)) (by simp [Value.oneCell']) (by omega) ?_
                intro v108 x108 ho108 hg108 hat108
                replace hR := hR.grow hg108 ho108 hat108
                obtain ⟨A108, c108, rfl⟩ := owns_slice ho108
                clear ho108 hg108 hat108
                refine hK.out _ _ (.inr (⟨hR.bl, (hR.ow _ (List.mem_cons_of_mem _ (List.mem_cons_of_mem _ (List.mem_cons_of_mem _ (List.mem_cons_self ..))))).cells' (c := 3) (by rfl) rfl r _ HZ.out⟩)) ?_
                clear hK K
                try simp only [Act.put, List.setIfInBounds_toArray, List.set]
                refine Rest.one (i := 16) (by kernel_rfl) ?_
                refine Comes.mk (o := ⟨some 46, _, _, _, _, _⟩) rfl (fun K hK => ?_)
                replace hR := hR.pull3
                refine step_append_row rfl (.tmp 38) (.tmp 45) 34 43 rfl _ 5 56 Try.underlying34 Try.infoInst5 rfl (by decide) (by decide) (.slice (some ⟨y106, 0, none⟩) 1 1) 1 [.int .i64 z, .int .i64 (-1), .int .i64 0, .int .u64 0, .slice none 0 0] (by rfl) hR.head (.slice A108 ((nd + 1) + 1) c108) (nd + 1 + 1) (us ++ [.int .i64 11, .int .i64 0, .int .i64 0, .int .u64 0, .slice none 0 0]) (by rfl) (by rw [List.length_append, HGO.out.1, List.length_append, HND.out]; simp only [List.length_cons, List.length_nil]; omega) (owns_news ((hR.ow _ (List.mem_cons_of_mem _ (List.mem_cons_self ..))).own rfl)) (by intro u hu; rcases List.mem_append.1 hu with h | h; (· exact HGO.out.ones u h); (· exact ones11 u h)) (by omega) ?_
                intro v109 x109 ho109 hg109 hat109
                replace hR := hR.grow hg109 ho109 hat109
                obtain ⟨A109, c109, rfl⟩ := owns_slice ho109
                clear ho109 hg109 hat109
                refine hK.out _ _ (.inr (⟨hR.bl, (hR.ow _ (List.mem_cons_of_mem _ (List.mem_cons_of_mem _ (List.mem_cons_of_mem _ (List.mem_cons_self ..))))).cells' (c := 3) (by rfl) rfl r _ HZ.out⟩)) ?_
                clear hK K
                try simp only [Act.put, List.setIfInBounds_toArray, List.set]
                refine Rest.one (i := 17) (by kernel_rfl) ?_
                refine Comes.mk (o := ⟨some 10, _, _, _, _, _⟩) rfl (fun K hK => ?_)
                go_simp
                refine hK.out _ _ (.inl rfl) ?_
                clear hK K
                refine Rest.done (by kernel_rfl) ?_ _
                go_wp2
                go_meet
                exact ⟨_, _, _, by first | rfl | (congr 1; omega), Lib.hid (wraps_row hR.head HGO.out), Lib.hid (HB40.out.trans (hR.bl.mono HB40.out.size))⟩
              · skip
                refine Comes.mk (o := ⟨some 44, _, _, _, _, _⟩) rfl (fun K hK => ?_)
                go_simp
                replace hR := hR.lit 43 5 1 #[.int .i64 11, .int .i64 0, .int .i64 0, .int .u64 0, .slice none 0 0] rfl (by decide)
                refine hK.out _ _ (.inr (⟨hR.bl, (hR.ow _ (List.mem_cons_of_mem _ (List.mem_cons_self ..))).cells' (c := 3) (by rfl) rfl r _ HZ.out⟩)) ?_
                clear hK K
                try simp only [List.setIfInBounds_toArray, List.set]
                generalize hy110 : x105.heap.size = y110 at hR ⊢
                generalize (x105.alloc (.cells #[.int .i64 11, .int .i64 0, .int .i64 0, .int .u64 0, .slice none 0 0] 43)) = x110 at hR ⊢
                clear hy110
                refine Rest.two (i := 8) (j := 15) (by kernel_rfl) ?_ ?_
                · skip
                  refine Comes.mk (o := ⟨some 38, _, _, _, _, _⟩) rfl (fun K hK => ?_)
                  go_simp
                  replace hR := hR.lit 43 5 1 #[.int .i64 z, .int .i64 (-1), .int .i64 0, .int .u64 0, .slice none 0 0] rfl (by decide)
                  refine hK.out _ _ (.inr (⟨hR.bl, (hR.ow _ (List.mem_cons_of_mem _ (List.mem_cons_of_mem _ (List.mem_cons_self ..)))).cells' (c := 3) (by rfl) rfl r _ HZ.out⟩)) ?_
                  clear hK K
                  try simp only [List.setIfInBounds_toArray, List.set]
                  generalize hy111 : x110.heap.size = y111 at hR ⊢
                  generalize (x110.alloc (.cells #[.int .i64 z, .int .i64 (-1), .int .i64 0, .int .u64 0, .slice none 0 0] 43)) = x111 at hR ⊢
                  clear hy111
                  refine Rest.one (i := 15) (by kernel_rfl) ?_
                  refine Comes.mk (o := ⟨some 45, _, _, _, _, _⟩) rfl (fun K hK => ?_)
                  replace hR := hR.perm (List.perm_middle (l₁ := [_, _, _])).symm
                  refine step_append_row rfl (.tmp 42) (.tmp 44) 34 43 rfl _ 5 56 Try.underlying34 Try.infoInst5 rfl (by decide) (by decide) (.slice A104 (nd + 1) c104) (nd + 1) us (by rfl) hR.head (.slice (some ⟨y110, 0, none⟩) 1 1) 1 [.int .i64 11, .int .i64 0, .int .i64 0, .int .u64 0, .slice none 0 0] (by rfl) (by rfl) (owns_news ((hR.ow _ (List.mem_cons_of_mem _ (List.mem_cons_of_mem _ (List.mem_cons_self ..)))).own rfl)) (by simp [Value.oneCell']) (by omega) ?_
                  intro v112 x112 ho112 hg112 hat112
                  replace hR := hR.grow hg112 ho112 hat112
                  obtain ⟨A112, c112, rfl⟩ := owns_slice ho112
                  clear ho112 hg112 hat112
                  refine hK.out _ _ (.inr (⟨hR.bl, (hR.ow _ (List.mem_cons_of_mem _ (List.mem_cons_of_mem _ (List.mem_cons_of_mem _ (List.mem_cons_self ..))))).cells' (c := 3) (by rfl) rfl r _ HZ.out⟩)) ?_
                  clear hK K
                  try simp only [Act.put, List.setIfInBounds_toArray, List.set]
                  refine Rest.one (i := 16) (by kernel_rfl) ?_
                  refine Comes.mk (o := ⟨some 46, _, _, _, _, _⟩) rfl (fun K hK => ?_)
                  replace hR := hR.swap
                  refine step_append_row rfl (.tmp 38) (.tmp 45) 34 43 rfl _ 5 56 Try.underlying34 Try.infoInst5 rfl (by decide) (by decide) (.slice (some ⟨y111, 0, none⟩) 1 1) 1 [.int .i64 z, .int .i64 (-1), .int .i64 0, .int .u64 0, .slice none 0 0] (by rfl) hR.head (.slice A112 ((nd + 1) + 1) c112) (nd + 1 + 1) (us ++ [.int .i64 11, .int .i64 0, .int .i64 0, .int .u64 0, .slice none 0 0]) (by rfl) (by rw [List.length_append, HGO.out.1, List.length_append, HND.out]; simp only [List.length_cons, List.length_nil]; omega) (owns_news ((hR.ow _ (List.mem_cons_of_mem _ (List.mem_cons_self ..))).own rfl)) (by intro u hu; rcases List.mem_append.1 hu with h | h; (· exact HGO.out.ones u h); (· exact ones11 u h)) (by omega) ?_
                  intro v113 x113 ho113 hg113 hat113
                  replace hR := hR.grow hg113 ho113 hat113
                  obtain ⟨A113, c113, rfl⟩ := owns_slice ho113
                  clear ho113 hg113 hat113
                  refine hK.out _ _ (.inr (⟨hR.bl, (hR.ow _ (List.mem_cons_of_mem _ (List.mem_cons_of_mem _ (List.mem_cons_of_mem _ (List.mem_cons_self ..))))).cells' (c := 3) (by rfl) rfl r _ HZ.out⟩)) ?_
                  clear hK K
                  try simp only [Act.put, List.setIfInBounds_toArray, List.set]
                  refine Rest.one (i := 17) (by kernel_rfl) ?_
                  refine Comes.mk (o := ⟨some 10, _, _, _, _, _⟩) rfl (fun K hK => ?_)
                  go_simp
                  refine hK.out _ _ (.inl rfl) ?_
                  clear hK K
                  refine Rest.done (by kernel_rfl) ?_ _
                  go_wp2
                  go_meet
                  exact ⟨_, _, _, by first | rfl | (congr 1; omega), Lib.hid (wraps_row hR.head HGO.out), Lib.hid (HB40.out.trans (hR.bl.mono HB40.out.size))⟩
                · skip
                  refine Comes.mk (o := ⟨some 45, _, _, _, _, _⟩) rfl (fun K hK => ?_)
                  replace hR := hR.pull3
                  refine step_append_row rfl (.tmp 42) (.tmp 44) 34 43 rfl _ 5 56 Try.underlying34 Try.infoInst5 rfl (by decide) (by decide) (.slice A104 (nd + 1) c104) (nd + 1) us (by rfl) hR.head (.slice (some ⟨y110, 0, none⟩) 1 1) 1 [.int .i64 11, .int .i64 0, .int .i64 0, .int .u64 0, .slice none 0 0] (by rfl) (by rfl) (owns_news ((hR.ow _ (List.mem_cons_of_mem _ (List.mem_cons_self ..))).own rfl)) (by simp [Value.oneCell']) (by omega) ?_
                  intro v114 x114 ho114 hg114 hat114
                  replace hR := hR.grow hg114 ho114 hat114
                  obtain ⟨A114, c114, rfl⟩ := owns_slice ho114
                  clear ho114 hg114 hat114
                  refine hK.out _ _ (.inr (⟨hR.bl, (hR.ow _ (List.mem_cons_of_mem _ (List.mem_cons_of_mem _ (List.mem_cons_self ..)))).cells' (c := 3) (by rfl) rfl r _ HZ.out⟩)) ?_
                  clear hK K
                  try simp only [Act.put, List.setIfInBounds_toArray, List.set]
                  refine Rest.one (i := 8) (by kernel_rfl) ?_
                  refine Comes.mk (o := ⟨some 38, _, _, _, _, _⟩) rfl (fun K hK => ?_)
                  go_simp
                  replace hR := hR.lit 43 5 1 #[.int .i64 z, .int .i64 (-1), .int .i64 0, .int .u64 0, .slice none 0 0] rfl (by decide)
                  refine hK.out _ _ (.inr (⟨hR.bl, (hR.ow _ (List.mem_cons_of_mem _ (List.mem_cons_of_mem _ (List.mem_cons_of_mem _ (List.mem_cons_self ..))))).cells' (c := 3) (by rfl) rfl r _ HZ.out⟩)) ?_
                  clear hK K
                  try simp only [List.setIfInBounds_toArray, List.set]
                  generalize hy115 : x114.heap.size = y115 at hR ⊢
                  generalize (x114.alloc (.cells #[.int .i64 z, .int .i64 (-1), .int .i64 0, .int .u64 0, .slice none 0 0] 43)) = x115 at hR ⊢
                  clear hy115
                  refine Rest.one (i := 16) (by kernel_rfl) ?_
                  refine Comes.mk (o := ⟨some 46, _, _, _, _, _⟩) rfl (fun K hK => ?_)
                  refine step_append_row rfl (.tmp 38) (.tmp 45) 34 43 rfl _ 5 56 Try.underlying34 Try.infoInst5 rfl (by decide) (by decide) (.slice (some ⟨y115, 0, none⟩) 1 1) 1 [.int .i64 z, .int .i64 (-1), .int .i64 0, .int .u64 0, .slice none 0 0] (by rfl) hR.head (.slice A114 ((nd + 1) + 1) c114) (nd + 1 + 1) (us ++ [.int .i64 11, .int .i64 0, .int .i64 0, .int .u64 0, .slice none 0 0]) (by rfl) (by rw [List.length_append, HGO.out.1, List.length_append, HND.out]; simp only [List.length_cons, List.length_nil]; omega) (owns_news ((hR.ow _ (List.mem_cons_of_mem _ (List.mem_cons_self ..))).own rfl)) (by intro u hu; rcases List.mem_append.1 hu with h | h; (· exact HGO.out.ones u h); (· exact ones11 u h)) (by omega) ?_
                  intro v116 x116 ho116 hg116 hat116
                  replace hR := hR.grow hg116 ho116 hat116
                  obtain ⟨A116, c116, rfl⟩ := owns_slice ho116
                  clear ho116 hg116 hat116
                  refine hK.out _ _ (.inr (⟨hR.bl, (hR.ow _ (List.mem_cons_of_mem _ (List.mem_cons_of_mem _ (List.mem_cons_of_mem _ (List.mem_cons_self ..))))).cells' (c := 3) (by rfl) rfl r _ HZ.out⟩)) ?_
                  clear hK K
                  try simp only [Act.put, List.setIfInBounds_toArray, List.set]
                  refine Rest.one (i := 17) (by kernel_rfl) ?_
                  refine Comes.mk (o := ⟨some 10, _, _, _, _, _⟩) rfl (fun K hK => ?_)
                  go_simp
                  refine hK.out _ _ (.inl rfl) ?_
                  clear hK K
                  refine Rest.done (by kernel_rfl) ?_ _
                  go_wp2
                  go_meet
                  exact ⟨_, _, _, by first | rfl | (congr 1; omega), Lib.hid (wraps_row hR.head HGO.out), Lib.hid (HB40.out.trans (hR.bl.mono HB40.out.size))⟩
            · skip
              refine Comes.mk (o := ⟨some 44, _, _, _, _, _⟩) rfl (fun K hK => ?_)
              go_simp
              replace hR := hR.lit 43 5 1 #[.int .i64 11, .int .i64 0, .int .i64 0, .int .u64 0, .slice none 0 0] rfl (by decide)
              refine hK.out _ _ (.inr (hR.bl)) ?_
              clear hK K
              try simp only [List.setIfInBounds_toArray, List.set]
              generalize hy117 : x104.heap.size = y117 at hR ⊢
              generalize (x104.alloc (.cells #[.int .i64 11, .int .i64 0, .int .i64 0, .int .u64 0, .slice none 0 0] 43)) = x117 at hR ⊢
              clear hy117
              refine Rest.two (i := 0) (j := 15) (by kernel_rfl) ?_ ?_
              · skip
                refine Comes.mk (o := ⟨some 30, _, _, _, _, _⟩) rfl (fun K hK => ?_)
                go_simp
                replace hR := hR.lit 3 1 3 #[.int .i64 2, .int .i64 3, .int .i64 4] rfl (by decide)
                refine hK.out _ _ (.inr (hR.bl)) ?_
                clear hK K
                try simp only [List.setIfInBounds_toArray, List.set]
                generalize hy118 : x117.heap.size = y118 at hR ⊢
                generalize (x117.alloc (.cells #[.int .i64 2, .int .i64 3, .int .i64 4] 3)) = x118 at hR ⊢
                clear hy118
                refine Rest.strong (S' := fun w' => Bel w4 w' ∧ w'.cell? ⟨y118, r, none⟩ = some (.int .i64 z)) (fun _ h => h.1) _ _ _ _ ?_
                refine Rest.take (i := 5) (oi := ⟨some 35, _, _, _, _, _⟩) (v := ?_) rfl (by kernel_rfl) (by kernel_rfl) (by kernel_rfl) (by kernel_rfl) (fun _ _ _ h => h) (Or.inl ⟨by rfl, ?_⟩) (⟨hR.bl, (hR.ow _ (List.mem_cons_self ..)).cells' (c := 3) (by rfl) rfl r _ HZ.out⟩) ?_
                rotate_left
                · intro w' hSw; obtain ⟨hSb', hSp⟩ := hSw; have hSb : Below _ _ _ := hSb'; go_simp; try with_reducible rfl
                try simp only [Act.put, List.setIfInBounds_toArray, List.set]
                refine Rest.take (i := 6) (oi := ⟨some 36, _, _, _, _, _⟩) (v := ?_) rfl (by kernel_rfl) (by kernel_rfl) (by kernel_rfl) (by kernel_rfl) (fun _ _ _ h => h) (Or.inl ⟨by rfl, ?_⟩) (⟨hR.bl, (hR.ow _ (List.mem_cons_self ..)).cells' (c := 3) (by rfl) rfl r _ HZ.out⟩) ?_
                rotate_left
                · intro w' hSw; obtain ⟨hSb', hSp⟩ := hSw; have hSb : Below _ _ _ := hSb'; go_simp; try with_reducible rfl
                try simp only [Act.put, List.setIfInBounds_toArray, List.set]
                refine Rest.take (i := 7) (oi := ⟨some 37, _, _, _, _, _⟩) (v := ?_) rfl (by kernel_rfl) (by kernel_rfl) (by kernel_rfl) (by kernel_rfl) (fun _ _ _ h => h) (Or.inl ⟨by rfl, ?_⟩) (⟨hR.bl, (hR.ow _ (List.mem_cons_self ..)).cells' (c := 3) (by rfl) rfl r _ HZ.out⟩) ?_
                rotate_left
                · intro w' hSw; obtain ⟨hSb', hSp⟩ := hSw; have hSb : Below _ _ _ := hSb'; go_simp; try with_reducible rfl
                try simp only [Act.put, List.setIfInBounds_toArray, List.set]
                refine Rest.two (i := 8) (j := 15) (by kernel_rfl) ?_ ?_
                · skip
                  refine Comes.mk (o := ⟨some 38, _, _, _, _, _⟩) rfl (fun K hK => ?_)
                  go_simp
                  replace hR := hR.lit 43 5 1 #[.int .i64 z, .int .i64 (-1), .int .i64 0, .int .u64 0, .slice none 0 0] rfl (by decide)
                  refine hK.out _ _ (.inr (⟨hR.bl, (hR.ow _ (List.mem_cons_of_mem _ (List.mem_cons_self ..))).cells' (c := 3) (by rfl) rfl r _ HZ.out⟩)) ?_
                  clear hK K
                  try simp only [List.setIfInBounds_toArray, List.set]
                  generalize hy119 : x118.heap.size = y119 at hR ⊢
                  generalize (x118.alloc (.cells #[.int .i64 z, .int .i64 (-1), .int .i64 0, .int .u64 0, .slice none 0 0] 43)) = x119 at hR ⊢
                  clear hy119
                  refine Rest.one (i := 15) (by kernel_rfl) ?_
                  refine Comes.mk (o := ⟨some 45, _, _, _, _, _⟩) rfl (fun K hK => ?_)
                  replace hR := hR.perm (List.perm_middle (l₁ := [_, _, _])).symm
                  refine step_append_row rfl (.tmp 42) (.tmp 44) 34 43 rfl _ 5 56 Try.underlying34 Try.infoInst5 rfl (by decide) (by decide) (.slice A104 (nd + 1) c104) (nd + 1) us (by rfl) hR.head (.slice (some ⟨y117, 0, none⟩) 1 1) 1 [.int .i64 11, .int .i64 0, .int .i64 0, .int .u64 0, .slice none 0 0] (by rfl) (by rfl) (owns_news ((hR.ow _ (List.mem_cons_of_mem _ (List.mem_cons_of_mem _ (List.mem_cons_of_mem _ (List.mem_cons_self ..))))).own rfl)) (by simp [Value.oneCell']) (by omega) ?_
                  intro v120 x120 ho120 hg120 hat120
                  replace hR := hR.grow hg120 ho120 hat120
                  obtain ⟨A120, c120, rfl⟩ := owns_slice ho120
                  clear ho120 hg120 hat120
                  refine hK.out _ _ (.inr (⟨hR.bl, (hR.ow _ (List.mem_cons_of_mem _ (List.mem_cons_of_mem _ (List.mem_cons_self ..)))).cells' (c := 3) (by rfl) rfl r _ HZ.out⟩)) ?_
                  clear hK K
                  try simp only [Act.put, List.setIfInBounds_toArray, List.set]
                  refine Rest.one (i := 16) (by kernel_rfl) ?_
                  refine Comes.mk (o := ⟨some 46, _, _, _, _, _⟩) rfl (fun K hK => ?_)
                  replace hR := hR.swap
                  refine step_append_row rfl (.tmp 38) (.tmp 45) 34 43 rfl _ 5 56 Try.underlying34 Try.infoInst5 rfl (by decide) (by decide) (.slice (some ⟨y119, 0, none⟩) 1 1) 1 [.int .i64 z, .int .i64 (-1), .int .i64 0, .int .u64 0, .slice none 0 0] (by rfl) hR.head (.slice A120 ((nd + 1) + 1) c120) (nd + 1 + 1) (us ++ [.int .i64 11, .int .i64 0, .int .i64 0, .int .u64 0, .slice none 0 0]) (by rfl) (by rw [List.length_append, HGO.out.1, List.length_append, HND.out]; simp only [List.length_cons, List.length_nil]; omega) (owns_news ((hR.ow _ (List.mem_cons_of_mem _ (List.mem_cons_self ..))).own rfl)) (by intro u hu; rcases List.mem_append.1 hu with h | h; (· exact HGO.out.ones u h); (· exact ones11 u h)) (by omega) ?_
                  intro v121 x121 ho121 hg121 hat121
                  replace hR := hR.grow hg121 ho121 hat121
                  obtain ⟨A121, c121, rfl⟩ := owns_slice ho121
                  clear ho121 hg121 hat121
                  refine hK.out _ _ (.inr (⟨hR.bl, (hR.ow _ (List.mem_cons_of_mem _ (List.mem_cons_of_mem _ (List.mem_cons_self ..)))).cells' (c := 3) (by rfl) rfl r _ HZ.out⟩)) ?_
                  clear hK K
                  try simp only [Act.put, List.setIfInBounds_toArray, List.set]
                  refine Rest.one (i := 17) (by kernel_rfl) ?_
                  refine Comes.mk (o := ⟨some 10, _, _, _, _, _⟩) rfl (fun K hK => ?_)
                  go_simp
                  refine hK.out _ _ (.inl rfl) ?_
                  clear hK K
                  refine Rest.done (by kernel_rfl) ?_ _
                  go_wp2
                  go_meet
                  exact ⟨_, _, _, by first | rfl | (congr 1; omega), Lib.hid (wraps_row hR.head HGO.out), Lib.hid (HB40.out.trans (hR.bl.mono HB40.out.size))⟩
                · skip
                  refine Comes.mk (o := ⟨some 45, _, _, _, _, _⟩) rfl (fun K hK => ?_)
                  replace hR := hR.pull3
                  refine step_append_row rfl (.tmp 42) (.tmp 44) 34 43 rfl _ 5 56 Try.underlying34 Try.infoInst5 rfl (by decide) (by decide) (.slice A104 (nd + 1) c104) (nd + 1) us (by rfl) hR.head (.slice (some ⟨y117, 0, none⟩) 1 1) 1 [.int .i64 11, .int .i64 0, .int .i64 0, .int .u64 0, .slice none 0 0] (by rfl) (by rfl) (owns_news ((hR.ow _ (List.mem_cons_of_mem _ (List.mem_cons_of_mem _ (List.mem_cons_self ..)))).own rfl)) (by simp [Value.oneCell']) (by omega) ?_
                  intro v122 x122 ho122 hg122 hat122
                  replace hR := hR.grow hg122 ho122 hat122
                  obtain ⟨A122, c122, rfl⟩ := owns_slice ho122
                  clear ho122 hg122 hat122
                  refine hK.out _ _ (.inr (⟨hR.bl, (hR.ow _ (List.mem_cons_of_mem _ (List.mem_cons_self ..))).cells' (c := 3) (by rfl) rfl r _ HZ.out⟩)) ?_
                  clear hK K
                  try simp only [Act.put, List.setIfInBounds_toArray, List.set]
                  refine Rest.one (i := 8) (by kernel_rfl) ?_
                  refine Comes.mk (o := ⟨some 38, _, _, _, _, _⟩) rfl (fun K hK => ?_)
                  go_simp
                  replace hR := hR.lit 43 5 1 #[.int .i64 z, .int .i64 (-1), .int .i64 0, .int .u64 0, .slice none 0 0] rfl (by decide)
                  refine hK.out _ _ (.inr (⟨hR.bl, (hR.ow _ (List.mem_cons_of_mem _ (List.mem_cons_of_mem _ (List.mem_cons_self ..)))).cells' (c := 3) (by rfl) rfl r _ HZ.out⟩)) ?_
                  clear hK K
                  try simp only [List.setIfInBounds_toArray, List.set]
                  generalize hy123 : x122.heap.size = y123 at hR ⊢
                  generalize (x122.alloc (.cells #[.int .i64 z, .int .i64 (-1), .int .i64 0, .int .u64 0, .slice none 0 0] 43)) = x123 at hR ⊢
                  clear hy123
                  refine Rest.one (i := 16) (by kernel_rfl) ?_
                  refine Comes.mk (o := ⟨some 46, _, _, _, _, _⟩) rfl (fun K hK => ?_)
                  refine step_append_row rfl (.tmp 38) (.tmp 45) 34 43 rfl _ 5 56 Try.underlying34 Try.infoInst5 rfl (by decide) (by decide) (.slice (some ⟨y123, 0, none⟩) 1 1) 1 [.int .i64 z, .int .i64 (-1), .int .i64 0, .int .u64 0, .slice none 0 0] (by rfl) hR.head (.slice A122 ((nd + 1) + 1) c122) (nd + 1 + 1) (us ++ [.int .i64 11, .int .i64 0, .int .i64 0, .int .u64 0, .slice none 0 0]) (by rfl) (by rw [List.length_append, HGO.out.1, List.length_append, HND.out]; simp only [List.length_cons, List.length_nil]; omega) (owns_news ((hR.ow _ (List.mem_cons_of_mem _ (List.mem_cons_self ..))).own rfl)) (by intro u hu; rcases List.mem_append.1 hu with h | h; (· exact HGO.out.ones u h); (· exact ones11 u h)) (by omega) ?_
                  intro v124 x124 ho124 hg124 hat124
                  replace hR := hR.grow hg124 ho124 hat124
                  obtain ⟨A124, c124, rfl⟩ := owns_slice ho124
                  clear ho124 hg124 hat124
                  refine hK.out _ _ (.inr (⟨hR.bl, (hR.ow _ (List.mem_cons_of_mem _ (List.mem_cons_of_mem _ (List.mem_cons_self ..)))).cells' (c := 3) (by rfl) rfl r _ HZ.out⟩)) ?_
                  clear hK K
                  try simp only [Act.put, List.setIfInBounds_toArray, List.set]
                  refine Rest.one (i := 17) (by kernel_rfl) ?_
                  refine Comes.mk (o := ⟨some 10, _, _, _, _, _⟩) rfl (fun K hK => ?_)
                  go_simp
                  refine hK.out _ _ (.inl rfl) ?_
                  clear hK K
                  refine Rest.done (by kernel_rfl) ?_ _
                  go_wp2
                  go_meet
                  exact ⟨_, _, _, by first | rfl | (congr 1; omega), Lib.hid (wraps_row hR.head HGO.out), Lib.hid (HB40.out.trans (hR.bl.mono HB40.out.size))⟩
              · skip
                refine Comes.mk (o := ⟨some 45, _, _, _, _, _⟩) rfl (fun K hK => ?_)
                replace hR := hR.swap
                refine step_append_row rfl (.tmp 42) (.tmp 44) 34 43 rfl _ 5 56 Try.underlying34 Try.infoInst5 rfl (by decide) (by decide) (.slice A104 (nd + 1) c104) (nd + 1) us (by rfl) hR.head (.slice (some ⟨y117, 0, none⟩) 1 1) 1 [.int .i64 11, .int .i64 0, .int .i64 0, .int .u64 0, .slice none 0 0] (by rfl) (by rfl) (owns_news ((hR.ow _ (List.mem_cons_of_mem _ (List.mem_cons_self ..))).own rfl)) (by simp [Value.oneCell']) (by omega) ?_
                intro v125 x125 ho125 hg125 hat125
                replace hR := hR.grow hg125 ho125 hat125
                obtain ⟨A125, c125, rfl⟩ := owns_slice ho125
                clear ho125 hg125 hat125
                refine hK.out _ _ (.inr (hR.bl)) ?_
                clear hK K
                try simp only [Act.put, List.setIfInBounds_toArray, List.set]
                refine Rest.one (i := 0) (by kernel_rfl) ?_
                refine Comes.mk (o := ⟨some 30, _, _, _, _, _⟩) rfl (fun K hK => ?_)
                go_simp
                replace hR := hR.lit 3 1 3 #[.int .i64 2, .int .i64 3, .int .i64 4] rfl (by decide)
                refine hK.out _ _ (.inr (hR.bl)) ?_
                clear hK K
                try simp only [List.setIfInBounds_toArray, List.set]
                generalize hy126 : x125.heap.size = y126 at hR ⊢
                generalize (x125.alloc (.cells #[.int .i64 2, .int .i64 3, .int .i64 4] 3)) = x126 at hR ⊢
                clear hy126
                refine Rest.strong (S' := fun w' => Bel w4 w' ∧ w'.cell? ⟨y126, r, none⟩ = some (.int .i64 z)) (fun _ h => h.1) _ _ _ _ ?_
                refine Rest.take (i := 5) (oi := ⟨some 35, _, _, _, _, _⟩) (v := ?_) rfl (by kernel_rfl) (by kernel_rfl) (by kernel_rfl) (by kernel_rfl) (fun _ _ _ h => h) (Or.inl ⟨by rfl, ?_⟩) (⟨hR.bl, (hR.ow _ (List.mem_cons_self ..)).cells' (c := 3) (by rfl) rfl r _ HZ.out⟩) ?_
                rotate_left
                · intro w' hSw; obtain ⟨hSb', hSp⟩ := hSw; have hSb : Below _ _ _ := hSb'; go_simp; try with_reducible rfl
                try simp only [Act.put, List.setIfInBounds_toArray, List.set]
                refine Rest.take (i := 6) (oi := ⟨some 36, _, _, _, _, _⟩) (v := ?_) rfl (by kernel_rfl) (by kernel_rfl) (by kernel_rfl) (by kernel_rfl) (fun _ _ _ h => h) (Or.inl ⟨by rfl, ?_⟩) (⟨hR.bl, (hR.ow _ (List.mem_cons_self ..)).cells' (c := 3) (by rfl) rfl r _ HZ.out⟩) ?_
                rotate_left
                · intro w' hSw; obtain ⟨hSb', hSp⟩ := hSw; have hSb : Below _ _ _ := hSb'; go_simp; try with_reducible rfl
                try simp only [Act.put, List.setIfInBounds_toArray, List.set]
                refine Rest.take (i := 7) (oi := ⟨some 37, _, _, _, _, _⟩) (v := ?_) rfl (by kernel_rfl) (by kernel_rfl) (by kernel_rfl) (by kernel_rfl) (fun _ _ _ h => h) (Or.inl ⟨by rfl, ?_⟩) (⟨hR.bl, (hR.ow _ (List.mem_cons_self ..)).cells' (c := 3) (by rfl) rfl r _ HZ.out⟩) ?_
                rotate_left
                · intro w' hSw; obtain ⟨hSb', hSp⟩ := hSw; have hSb : Below _ _ _ := hSb'; go_simp; try with_reducible rfl
                try simp only [Act.put, List.setIfInBounds_toArray, List.set]
                refine Rest.one (i := 8) (by kernel_rfl) ?_
                refine Comes.mk (o := ⟨some 38, _, _, _, _, _⟩) rfl (fun K hK => ?_)
                go_simp
                replace hR := hR.lit 43 5 1 #[.int .i64 z, .int .i64 (-1), .int .i64 0, .int .u64 0, .slice none 0 0] rfl (by decide)
                refine hK.out _ _ (.inr (⟨hR.bl, (hR.ow _ (List.mem_cons_of_mem _ (List.mem_cons_self ..))).cells' (c := 3) (by rfl) rfl r _ HZ.out⟩)) ?_
                clear hK K
                try simp only [List.setIfInBounds_toArray, List.set]
                generalize hy127 : x126.heap.size = y127 at hR ⊢
                generalize (x126.alloc (.cells #[.int .i64 z, .int .i64 (-1), .int .i64 0, .int .u64 0, .slice none 0 0] 43)) = x127 at hR ⊢
                clear hy127
                refine Rest.one (i := 16) (by kernel_rfl) ?_
                refine Comes.mk (o := ⟨some 46, _, _, _, _, _⟩) rfl (fun K hK => ?_)
                refine step_append_row rfl (.tmp 38) (.tmp 45) 34 43 rfl _ 5 56 Try.underlying34 Try.infoInst5 rfl (by decide) (by decide) (.slice (some ⟨y127, 0, none⟩) 1 1) 1 [.int .i64 z, .int .i64 (-1), .int .i64 0, .int .u64 0, .slice none 0 0] (by rfl) hR.head (.slice A125 ((nd + 1) + 1) c125) (nd + 1 + 1) (us ++ [.int .i64 11, .int .i64 0, .int .i64 0, .int .u64 0, .slice none 0 0]) (by rfl) (by rw [List.length_append, HGO.out.1, List.length_append, HND.out]; simp only [List.length_cons, List.length_nil]; omega) (owns_news ((hR.ow _ (List.mem_cons_of_mem _ (List.mem_cons_of_mem _ (List.mem_cons_self ..)))).own rfl)) (by intro u hu; rcases List.mem_append.1 hu with h | h; (· exact HGO.out.ones u h); (· exact ones11 u h)) (by omega) ?_
                intro v128 x128 ho128 hg128 hat128
                replace hR := hR.grow hg128 ho128 hat128
                obtain ⟨A128, c128, rfl⟩ := owns_slice ho128
                clear ho128 hg128 hat128
                refine hK.out _ _ (.inr (⟨hR.bl, (hR.ow _ (List.mem_cons_of_mem _ (List.mem_cons_self ..))).cells' (c := 3) (by rfl) rfl r _ HZ.out⟩)) ?_
                clear hK K
                try simp only [Act.put, List.setIfInBounds_toArray, List.set]
                refine Rest.one (i := 17) (by kernel_rfl) ?_
                refine Comes.mk (o := ⟨some 10, _, _, _, _, _⟩) rfl (fun K hK => ?_)
                go_simp
                refine hK.out _ _ (.inl rfl) ?_
                clear hK K
                refine Rest.done (by kernel_rfl) ?_ _
                go_wp2
                go_meet
                exact ⟨_, _, _, by first | rfl | (congr 1; omega), Lib.hid (wraps_row hR.head HGO.out), Lib.hid (HB40.out.trans (hR.bl.mono HB40.out.size))⟩
          · skip
            refine Comes.mk (o := ⟨some 44, _, _, _, _, _⟩) rfl (fun K hK => ?_)
            go_simp
            replace hR := hR.lit 43 5 1 #[.int .i64 11, .int .i64 0, .int .i64 0, .int .u64 0, .slice none 0 0] rfl (by decide)
            refine hK.out _ _ (.inr (hR.bl)) ?_
            clear hK K
            try simp only [List.setIfInBounds_toArray, List.set]
            generalize hy129 : x69.heap.size = y129 at hR ⊢
            generalize (x69.alloc (.cells #[.int .i64 11, .int .i64 0, .int .i64 0, .int .u64 0, .slice none 0 0] 43)) = x129 at hR ⊢
            clear hy129
            refine Rest.two (i := 0) (j := 12) (by kernel_rfl) ?_ ?_
            · skip
              refine Comes.mk (o := ⟨some 30, _, _, _, _, _⟩) rfl (fun K hK => ?_)
              go_simp
              replace hR := hR.lit 3 1 3 #[.int .i64 2, .int .i64 3, .int .i64 4] rfl (by decide)
              refine hK.out _ _ (.inr (hR.bl)) ?_
              clear hK K
              try simp only [List.setIfInBounds_toArray, List.set]
              generalize hy130 : x129.heap.size = y130 at hR ⊢
              generalize (x129.alloc (.cells #[.int .i64 2, .int .i64 3, .int .i64 4] 3)) = x130 at hR ⊢
              clear hy130
              refine Rest.strong (S' := fun w' => Bel w4 w' ∧ w'.cell? ⟨y130, r, none⟩ = some (.int .i64 z)) (fun _ h => h.1) _ _ _ _ ?_
              refine Rest.take (i := 5) (oi := ⟨some 35, _, _, _, _, _⟩) (v := ?_) rfl (by kernel_rfl) (by kernel_rfl) (by kernel_rfl) (by kernel_rfl) (fun _ _ _ h => h) (Or.inl ⟨by rfl, ?_⟩) (⟨hR.bl, (hR.ow _ (List.mem_cons_self ..)).cells' (c := 3) (by rfl) rfl r _ HZ.out⟩) ?_
              rotate_left
              · intro w' hSw; obtain ⟨hSb', hSp⟩ := hSw; have hSb : Below _ _ _ := hSb'; go_simp; try with_reducible rfl
              try simp only [Act.put, List.setIfInBounds_toArray, List.set]
              refine Rest.take (i := 6) (oi := ⟨some 36, _, _, _, _, _⟩) (v := ?_) rfl (by kernel_rfl) (by kernel_rfl) (by kernel_rfl) (by kernel_rfl) (fun _ _ _ h => h) (Or.inl ⟨by rfl, ?_⟩) (⟨hR.bl, (hR.ow _ (List.mem_cons_self ..)).cells' (c := 3) (by rfl) rfl r _ HZ.out⟩) ?_
              rotate_left
              · intro w' hSw; obtain ⟨hSb', hSp⟩ := hSw; have hSb : Below _ _ _ := hSb'; go_simp; try with_reducible rfl
              try simp only [Act.put, List.setIfInBounds_toArray, List.set]
              refine Rest.take (i := 7) (oi := ⟨some 37, _, _, _, _, _⟩) (v := ?_) rfl (by kernel_rfl) (by kernel_rfl) (by kernel_rfl) (by kernel_rfl) (fun _ _ _ h => h) (Or.inl ⟨by rfl, ?_⟩) (⟨hR.bl, (hR.ow _ (List.mem_cons_self ..)).cells' (c := 3) (by rfl) rfl r _ HZ.out⟩) ?_
              rotate_left
              · intro w' hSw; obtain ⟨hSb', hSp⟩ := hSw; have hSb : Below _ _ _ := hSb'; go_simp; try with_reducible rfl
              try simp only [Act.put, List.setIfInBounds_toArray, List.set]
              refine Rest.two (i := 8) (j := 12) (by kernel_rfl) ?_ ?_
              · skip
                refine Comes.mk (o := ⟨some 38, _, _, _, _, _⟩) rfl (fun K hK => ?_)
                go_simp
                replace hR := hR.lit 43 5 1 #[.int .i64 z, .int .i64 (-1), .int .i64 0, .int .u64 0, .slice none 0 0] rfl (by decide)
                refine hK.out _ _ (.inr (⟨hR.bl, (hR.ow _ (List.mem_cons_of_mem _ (List.mem_cons_self ..))).cells' (c := 3) (by rfl) rfl r _ HZ.out⟩)) ?_
                clear hK K
                try simp only [List.setIfInBounds_toArray, List.set]
                generalize hy131 : x130.heap.size = y131 at hR ⊢
                generalize (x130.alloc (.cells #[.int .i64 z, .int .i64 (-1), .int .i64 0, .int .u64 0, .slice none 0 0] 43)) = x131 at hR ⊢
                clear hy131
                refine Rest.one (i := 12) (by kernel_rfl) ?_
                refine Comes.mk (o := ⟨some 42, _, _, _, _, _⟩) rfl (fun K hK => ?_)
                replace hR := hR.perm (List.perm_middle (l₁ := [_, _, _])).symm
                refine step_append_row rfl (.tmp 39) (.tmp 41) 34 43 rfl _ 5 56 Try.underlying34 Try.infoInst5 rfl (by decide) (by decide) (.slice (some ⟨y69, 0, none⟩) 0 0) 0 [] (by rfl) hR.head (.slice Ac (nd + 1) cc) (nd + 1) us (by rfl) (by rw [HGO.out.1, List.length_append, HND.out]; rfl) (HNW.out _ hR.bl) HGO.out.ones (by omega) ?_
                intro v132 x132 ho132 hg132 hat132
                simp only [Nat.zero_add, List.nil_append] at ho132
                replace hR := hR.grow hg132 ho132 hat132
                obtain ⟨A132, c132, rfl⟩ := owns_slice ho132
                clear ho132 hg132 hat132
                refine hK.out _ _ (.inr (⟨hR.bl, (hR.ow _ (List.mem_cons_of_mem _ (List.mem_cons_of_mem _ (List.mem_cons_self ..)))).cells' (c := 3) (by rfl) rfl r _ HZ.out⟩)) ?_
                clear hK K
                try simp only [Act.put, List.setIfInBounds_toArray, List.set]
                refine Rest.one (i := 15) (by kernel_rfl) ?_
                refine Comes.mk (o := ⟨some 45, _, _, _, _, _⟩) rfl (fun K hK => ?_)
                refine step_append_row rfl (.tmp 42) (.tmp 44) 34 43 rfl _ 5 56 Try.underlying34 Try.infoInst5 rfl (by decide) (by decide) (.slice A132 (nd + 1) c132) (nd + 1) us (by rfl) hR.head (.slice (some ⟨y129, 0, none⟩) 1 1) 1 [.int .i64 11, .int .i64 0, .int .i64 0, .int .u64 0, .slice none 0 0] (by rfl) (by rfl) (owns_news ((hR.ow _ (List.mem_cons_of_mem _ (List.mem_cons_of_mem _ (List.mem_cons_of_mem _ (List.mem_cons_self ..))))).own rfl)) (by simp [Value.oneCell']) (by omega) ?_
                intro v133 x133 ho133 hg133 hat133
                replace hR := hR.grow hg133 ho133 hat133
                obtain ⟨A133, c133, rfl⟩ := owns_slice ho133
                clear ho133 hg133 hat133
                refine hK.out _ _ (.inr (⟨hR.bl, (hR.ow _ (List.mem_cons_of_mem _ (List.mem_cons_of_mem _ (List.mem_cons_self ..)))).cells' (c := 3) (by rfl) rfl r _ HZ.out⟩)) ?_
                clear hK K
                try simp only [Act.put, List.setIfInBounds_toArray, List.set]
                refine Rest.one (i := 16) (by kernel_rfl) ?_
                refine Comes.mk (o := ⟨some 46, _, _, _, _, _⟩) rfl (fun K hK => ?_)
                replace hR := hR.swap
                refine step_append_row rfl (.tmp 38) (.tmp 45) 34 43 rfl _ 5 56 Try.underlying34 Try.infoInst5 rfl (by decide) (by decide) (.slice (some ⟨y131, 0, none⟩) 1 1) 1 [.int .i64 z, .int .i64 (-1), .int .i64 0, .int .u64 0, .slice none 0 0] (by rfl) hR.head (.slice A133 ((nd + 1) + 1) c133) (nd + 1 + 1) (us ++ [.int .i64 11, .int .i64 0, .int .i64 0, .int .u64 0, .slice none 0 0]) (by rfl) (by rw [List.length_append, HGO.out.1, List.length_append, HND.out]; simp only [List.length_cons, List.length_nil]; omega) (owns_news ((hR.ow _ (List.mem_cons_of_mem _ (List.mem_cons_self ..))).own rfl)) (by intro u hu; rcases List.mem_append.1 hu with h | h; (· exact HGO.out.ones u h); (· exact ones11 u h)) (by omega) ?_
                intro v134 x134 ho134 hg134 hat134
                replace hR := hR.grow hg134 ho134 hat134
                obtain ⟨A134, c134, rfl⟩ := owns_slice ho134
                clear ho134 hg134 hat134
                refine hK.out _ _ (.inr (⟨hR.bl, (hR.ow _ (List.mem_cons_of_mem _ (List.mem_cons_of_mem _ (List.mem_cons_self ..)))).cells' (c := 3) (by rfl) rfl r _ HZ.out⟩)) ?_
                clear hK K
                try simp only [Act.put, List.setIfInBounds_toArray, List.set]
                refine Rest.one (i := 17) (by kernel_rfl) ?_
                refine Comes.mk (o := ⟨some 10, _, _, _, _, _⟩) rfl (fun K hK => ?_)
                go_simp
                refine hK.out _ _ (.inl rfl) ?_
                clear hK K
                refine Rest.done (by kernel_rfl) ?_ _
                go_wp2
                go_meet
                exact ⟨_, _, _, by first | rfl | (congr 1; omega), Lib.hid (wraps_row hR.head HGO.out), Lib.hid (HB40.out.trans (hR.bl.mono HB40.out.size))⟩
              · skip
                refine Comes.mk (o := ⟨some 42, _, _, _, _, _⟩) rfl (fun K hK => ?_)
                replace hR := hR.pull3
                refine step_append_row rfl (.tmp 39) (.tmp 41) 34 43 rfl _ 5 56 Try.underlying34 Try.infoInst5 rfl (by decide) (by decide) (.slice (some ⟨y69, 0, none⟩) 0 0) 0 [] (by rfl) hR.head (.slice Ac (nd + 1) cc) (nd + 1) us (by rfl) (by rw [HGO.out.1, List.length_append, HND.out]; rfl) (HNW.out _ hR.bl) HGO.out.ones (by omega) ?_
                intro v135 x135 ho135 hg135 hat135
                simp only [Nat.zero_add, List.nil_append] at ho135
                replace hR := hR.grow hg135 ho135 hat135
                obtain ⟨A135, c135, rfl⟩ := owns_slice ho135
                clear ho135 hg135 hat135
                refine hK.out _ _ (.inr (⟨hR.bl, (hR.ow _ (List.mem_cons_of_mem _ (List.mem_cons_self ..))).cells' (c := 3) (by rfl) rfl r _ HZ.out⟩)) ?_
                clear hK K
                try simp only [Act.put, List.setIfInBounds_toArray, List.set]
                refine Rest.two (i := 8) (j := 15) (by kernel_rfl) ?_ ?_
                · skip
                  refine Comes.mk (o := ⟨some 38, _, _, _, _, _⟩) rfl (fun K hK => ?_)
                  go_simp
                  replace hR := hR.lit 43 5 1 #[.int .i64 z, .int .i64 (-1), .int .i64 0, .int .u64 0, .slice none 0 0] rfl (by decide)
                  refine hK.out _ _ (.inr (⟨hR.bl, (hR.ow _ (List.mem_cons_of_mem _ (List.mem_cons_of_mem _ (List.mem_cons_self ..)))).cells' (c := 3) (by rfl) rfl r _ HZ.out⟩)) ?_
                  clear hK K
                  try simp only [List.setIfInBounds_toArray, List.set]
                  generalize hy136 : x135.heap.size = y136 at hR ⊢
                  generalize (x135.alloc (.cells #[.int .i64 z, .int .i64 (-1), .int .i64 0, .int .u64 0, .slice none 0 0] 43)) = x136 at hR ⊢
                  clear hy136
                  refine Rest.one (i := 15) (by kernel_rfl) ?_
                  refine Comes.mk (o := ⟨some 45, _, _, _, _, _⟩) rfl (fun K hK => ?_)
                  replace hR := hR.swap
                  refine step_append_row rfl (.tmp 42) (.tmp 44) 34 43 rfl _ 5 56 Try.underlying34 Try.infoInst5 rfl (by decide) (by decide) (.slice A135 (nd + 1) c135) (nd + 1) us (by rfl) hR.head (.slice (some ⟨y129, 0, none⟩) 1 1) 1 [.int .i64 11, .int .i64 0, .int .i64 0, .int .u64 0, .slice none 0 0] (by rfl) (by rfl) (owns_news ((hR.ow _ (List.mem_cons_of_mem _ (List.mem_cons_of_mem _ (List.mem_cons_of_mem _ (List.mem_cons_self ..))))).own rfl)) (by simp [Value.oneCell']) (by omega) ?_
                  intro v137 x137 ho137 hg137 hat137
                  replace hR := hR.grow hg137 ho137 hat137
                  obtain ⟨A137, c137, rfl⟩ := owns_slice ho137
                  clear ho137 hg137 hat137
                  refine hK.out _ _ (.inr (⟨hR.bl, (hR.ow _ (List.mem_cons_of_mem _ (List.mem_cons_of_mem _ (List.mem_cons_self ..)))).cells' (c := 3) (by rfl) rfl r _ HZ.out⟩)) ?_
                  clear hK K
                  try simp only [Act.put, List.setIfInBounds_toArray, List.set]
                  refine Rest.one (i := 16) (by kernel_rfl) ?_
                  refine Comes.mk (o := ⟨some 46, _, _, _, _, _⟩) rfl (fun K hK => ?_)
                  replace hR := hR.swap
                  refine step_append_row rfl (.tmp 38) (.tmp 45) 34 43 rfl _ 5 56 Try.underlying34 Try.infoInst5 rfl (by decide) (by decide) (.slice (some ⟨y136, 0, none⟩) 1 1) 1 [.int .i64 z, .int .i64 (-1), .int .i64 0, .int .u64 0, .slice none 0 0] (by rfl) hR.head (.slice A137 ((nd + 1) + 1) c137) (nd + 1 + 1) (us ++ [.int .i64 11, .int .i64 0, .int .i64 0, .int .u64 0, .slice none 0 0]) (by rfl) (by rw [List.length_append, HGO.out.1, List.length_append, HND.out]; simp only [List.length_cons, List.length_nil]; omega) (owns_news ((hR.ow _ (List.mem_cons_of_mem _ (List.mem_cons_self ..))).own rfl)) (by intro u hu; rcases List.mem_append.1 hu with h | h; (· exact HGO.out.ones u h); (· exact ones11 u h)) (by omega) ?_
                  intro v138 x138 ho138 hg138 hat138
                  replace hR := hR.grow hg138 ho138 hat138
                  obtain ⟨A138, c138, rfl⟩ := owns_slice ho138
                  clear ho138 hg138 hat138
                  refine hK.out _ _ (.inr (⟨hR.bl, (hR.ow _ (List.mem_cons_of_mem _ (List.mem_cons_of_mem _ (List.mem_cons_self ..)))).cells' (c := 3) (by rfl) rfl r _ HZ.out⟩)) ?_
                  clear hK K
                  try simp only [Act.put, List.setIfInBounds_toArray, List.set]
                  refine Rest.one (i := 17) (by kernel_rfl) ?_
                  refine Comes.mk (o := ⟨some 10, _, _, _, _, _⟩) rfl (fun K hK => ?_)
                  go_simp
                  refine hK.out _ _ (.inl rfl) ?_
                  clear hK K
                  refine Rest.done (by kernel_rfl) ?_ _
                  go_wp2
                  go_meet
                  exact ⟨_, _, _, by first | rfl | (congr 1; omega), Lib.hid (wraps_row hR.head HGO.out), Lib.hid (HB40.out.trans (hR.bl.mono HB40.out.size))⟩
                · skip
                  refine Comes.mk (o := ⟨some 45, _, _, _, _, _⟩) rfl (fun K hK => ?_)
                  refine step_append_row rfl (.tmp 42) (.tmp 44) 34 43 rfl _ 5 56 Try.underlying34 Try.infoInst5 rfl (by decide) (by decide) (.slice A135 (nd + 1) c135) (nd + 1) us (by rfl) hR.head (.slice (some ⟨y129, 0, none⟩) 1 1) 1 [.int .i64 11, .int .i64 0, .int .i64 0, .int .u64 0, .slice none 0 0] (by rfl) (by rfl) (owns_news ((hR.ow _ (List.mem_cons_of_mem _ (List.mem_cons_of_mem _ (List.mem_cons_self ..)))).own rfl)) (by simp [Value.oneCell']) (by omega) ?_
                  intro v139 x139 ho139 hg139 hat139
                  replace hR := hR.grow hg139 ho139 hat139
                  obtain ⟨A139, c139, rfl⟩ := owns_slice ho139
                  clear ho139 hg139 hat139
                  refine hK.out _ _ (.inr (⟨hR.bl, (hR.ow _ (List.mem_cons_of_mem _ (List.mem_cons_self ..))).cells' (c := 3) (by rfl) rfl r _ HZ.out⟩)) ?_
                  clear hK K
                  try simp only [Act.put, List.setIfInBounds_toArray, List.set]
                  refine Rest.one (i := 8) (by kernel_rfl) ?_
                  refine Comes.mk (o := ⟨some 38, _, _, _, _, _⟩) rfl (fun K hK => ?_)
                  go_simp
                  replace hR := hR.lit 43 5 1 #[.int .i64 z, .int .i64 (-1), .int .i64 0, .int .u64 0, .slice none 0 0] rfl (by decide)
                  refine hK.out _ _ (.inr (⟨hR.bl, (hR.ow _ (List.mem_cons_of_mem _ (List.mem_cons_of_mem _ (List.mem_cons_self ..)))).cells' (c := 3) (by rfl) rfl r _ HZ.out⟩)) ?_
                  clear hK K
                  try simp only [List.setIfInBounds_toArray, List.set]
                  generalize hy140 : x139.heap.size = y140 at hR ⊢
                  generalize (x139.alloc (.cells #[.int .i64 z, .int .i64 (-1), .int .i64 0, .int .u64 0, .slice none 0 0] 43)) = x140 at hR ⊢
                  clear hy140
                  refine Rest.one (i := 16) (by kernel_rfl) ?_
                  refine Comes.mk (o := ⟨some 46, _, _, _, _, _⟩) rfl (fun K hK => ?_)
                  refine step_append_row rfl (.tmp 38) (.tmp 45) 34 43 rfl _ 5 56 Try.underlying34 Try.infoInst5 rfl (by decide) (by decide) (.slice (some ⟨y140, 0, none⟩) 1 1) 1 [.int .i64 z, .int .i64 (-1), .int .i64 0, .int .u64 0, .slice none 0 0] (by rfl) hR.head (.slice A139 ((nd + 1) + 1) c139) (nd + 1 + 1) (us ++ [.int .i64 11, .int .i64 0, .int .i64 0, .int .u64 0, .slice none 0 0]) (by rfl) (by rw [List.length_append, HGO.out.1, List.length_append, HND.out]; simp only [List.length_cons, List.length_nil]; omega) (owns_news ((hR.ow _ (List.mem_cons_of_mem _ (List.mem_cons_self ..))).own rfl)) (by intro u hu; rcases List.mem_append.1 hu with h | h; (· exact HGO.out.ones u h); (· exact ones11 u h)) (by omega) ?_
                  intro v141 x141 ho141 hg141 hat141
                  replace hR := hR.grow hg141 ho141 hat141
                  obtain ⟨A141, c141, rfl⟩ := owns_slice ho141
                  clear ho141 hg141 hat141
                  refine hK.out _ _ (.inr (⟨hR.bl, (hR.ow _ (List.mem_cons_of_mem _ (List.mem_cons_of_mem _ (List.mem_cons_self ..)))).cells' (c := 3) (by rfl) rfl r _ HZ.out⟩)) ?_
                  clear hK K
                  try simp only [Act.put, List.setIfInBounds_toArray, List.set]
                  refine Rest.one (i := 17) (by kernel_rfl) ?_
                  refine Comes.mk (o := ⟨some 10, _, _, _, _, _⟩) rfl (fun K hK => ?_)
                  go_simp
                  refine hK.out _ _ (.inl rfl) ?_
                  clear hK K
                  refine Rest.done (by kernel_rfl) ?_ _
                  go_wp2
                  go_meet
                  exact ⟨_, _, _, by first | rfl | (congr 1; omega), Lib.hid (wraps_row hR.head HGO.out), Lib.hid (HB40.out.trans (hR.bl.mono HB40.out.size))⟩
            · skip
              refine Comes.mk (o := ⟨some 42, _, _, _, _, _⟩) rfl (fun K hK => ?_)
              replace hR := hR.swap
              refine step_append_row rfl (.tmp 39) (.tmp 41) 34 43 rfl _ 5 56 Try.underlying34 Try.infoInst5 rfl (by decide) (by decide) (.slice (some ⟨y69, 0, none⟩) 0 0) 0 [] (by rfl) hR.head (.slice Ac (nd + 1) cc) (nd + 1) us (by rfl) (by rw [HGO.out.1, List.length_append, HND.out]; rfl) (HNW.out _ hR.bl) HGO.out.ones (by omega) ?_
              intro v142 x142 ho142 hg142 hat142
              simp only [Nat.zero_add, List.nil_append] at ho142
              replace hR := hR.grow hg142 ho142 hat142
              obtain ⟨A142, c142, rfl⟩ := owns_slice ho142
              clear ho142 hg142 hat142
              refine hK.out _ _ (.inr (hR.bl)) ?_
              clear hK K
              try simp only [Act.put, List.setIfInBounds_toArray, List.set]
              refine Rest.two (i := 0) (j := 15) (by kernel_rfl) ?_ ?_
              · skip
                refine Comes.mk (o := ⟨some 30, _, _, _, _, _⟩) rfl (fun K hK => ?_)
                go_simp
                replace hR := hR.lit 3 1 3 #[.int .i64 2, .int .i64 3, .int .i64 4] rfl (by decide)
                refine hK.out _ _ (.inr (hR.bl)) ?_
                clear hK K
                try simp only [List.setIfInBounds_toArray, List.set]
                generalize hy143 : x142.heap.size = y143 at hR ⊢
                generalize (x142.alloc (.cells #[.int .i64 2, .int .i64 3, .int .i64 4] 3)) = x143 at hR ⊢
                clear hy143
                refine Rest.strong (S' := fun w' => Bel w4 w' ∧ w'.cell? ⟨y143, r, none⟩ = some (.int .i64 z)) (fun _ h => h.1) _ _ _ _ ?_
                refine Rest.take (i := 5) (oi := ⟨some 35, _, _, _, _, _⟩) (v := ?_) rfl (by kernel_rfl) (by kernel_rfl) (by kernel_rfl) (by kernel_rfl) (fun _ _ _ h => h) (Or.inl ⟨by rfl, ?_⟩) (⟨hR.bl, (hR.ow _ (List.mem_cons_self ..)).cells' (c := 3) (by rfl) rfl r _ HZ.out⟩) ?_
                rotate_left
                · intro w' hSw; obtain ⟨hSb', hSp⟩ := hSw; have hSb : Below _ _ _ := hSb'; go_simp; try with_reducible rfl
                try simp only [Act.put, List.setIfInBounds_toArray, List.set]
                refine Rest.take (i := 6) (oi := ⟨some 36, _, _, _, _, _⟩) (v := ?_) rfl (by kernel_rfl) (by kernel_rfl) (by kernel_rfl) (by kernel_rfl) (fun _ _ _ h => h) (Or.inl ⟨by rfl, ?_⟩) (⟨hR.bl, (hR.ow _ (List.mem_cons_self ..)).cells' (c := 3) (by rfl) rfl r _ HZ.out⟩) ?_
                rotate_left
                · intro w' hSw; obtain ⟨hSb', hSp⟩ := hSw; have hSb : Below _ _ _ := hSb'; go_simp; try with_reducible rfl
                try simp only [Act.put, List.setIfInBounds_toArray, List.set]
                refine Rest.take (i := 7) (oi := ⟨some 37, _, _, _, _, _⟩) (v := ?_) rfl (by kernel_rfl) (by kernel_rfl) (by kernel_rfl) (by kernel_rfl) (fun _ _ _ h => h) (Or.inl ⟨by rfl, ?_⟩) (⟨hR.bl, (hR.ow _ (List.mem_cons_self ..)).cells' (c := 3) (by rfl) rfl r _ HZ.out⟩) ?_
                rotate_left
                · intro w' hSw; obtain ⟨hSb', hSp⟩ := hSw; have hSb : Below _ _ _ := hSb'; go_simp; try with_reducible rfl
                try simp only [Act.put, List.setIfInBounds_toArray, List.set]
                refine Rest.two (i := 8) (j := 15) (by kernel_rfl) ?_ ?_
                · skip
                  refine Comes.mk (o := ⟨some 38, _, _, _, _, _⟩) rfl (fun K hK => ?_)
                  go_simp
                  replace hR := hR.lit 43 5 1 #[.int .i64 z, .int .i64 (-1), .int .i64 0, .int .u64 0, .slice none 0 0] rfl (by decide)
                  refine hK.out _ _ (.inr (⟨hR.bl, (hR.ow _ (List.mem_cons_of_mem _ (List.mem_cons_self ..))).cells' (c := 3) (by rfl) rfl r _ HZ.out⟩)) ?_
                  clear hK K
                  try simp only [List.setIfInBounds_toArray, List.set]
                  generalize hy144 : x143.heap.size = y144 at hR ⊢
                  generalize (x143.alloc (.cells #[.int .i64 z, .int .i64 (-1), .int .i64 0, .int .u64 0, .slice none 0 0] 43)) = x144 at hR ⊢
                  clear hy144
                  refine Rest.one (i := 15) (by kernel_rfl) ?_
                  refine Comes.mk (o := ⟨some 45, _, _, _, _, _⟩) rfl (fun K hK => ?_)
                  replace hR := hR.pull3
                  refine step_append_row rfl (.tmp 42) (.tmp 44) 34 43 rfl _ 5 56 Try.underlying34 Try.infoInst5 rfl (by decide) (by decide) (.slice A142 (nd + 1) c142) (nd + 1) us (by rfl) hR.head (.slice (some ⟨y129, 0, none⟩) 1 1) 1 [.int .i64 11, .int .i64 0, .int .i64 0, .int .u64 0, .slice none 0 0] (by rfl) (by rfl) (owns_news ((hR.ow _ (List.mem_cons_of_mem _ (List.mem_cons_of_mem _ (List.mem_cons_of_mem _ (List.mem_cons_self ..))))).own rfl)) (by simp [Value.oneCell']) (by omega) ?_
                  intro v145 x145 ho145 hg145 hat145
                  replace hR := hR.grow hg145 ho145 hat145
                  obtain ⟨A145, c145, rfl⟩ := owns_slice ho145
                  clear ho145 hg145 hat145
                  refine hK.out _ _ (.inr (⟨hR.bl, (hR.ow _ (List.mem_cons_of_mem _ (List.mem_cons_of_mem _ (List.mem_cons_self ..)))).cells' (c := 3) (by rfl) rfl r _ HZ.out⟩)) ?_
                  clear hK K
                  try simp only [Act.put, List.setIfInBounds_toArray, List.set]
                  refine Rest.one (i := 16) (by kernel_rfl) ?_
                  refine Comes.mk (o := ⟨some 46, _, _, _, _, _⟩) rfl (fun K hK => ?_)
                  replace hR := hR.swap
                  refine step_append_row rfl (.tmp 38) (.tmp 45) 34 43 rfl _ 5 56 Try.underlying34 Try.infoInst5 rfl (by decide) (by decide) (.slice (some ⟨y144, 0, none⟩) 1 1) 1 [.int .i64 z, .int .i64 (-1), .int .i64 0, .int .u64 0, .slice none 0 0] (by rfl) hR.head (.slice A145 ((nd + 1) + 1) c145) (nd + 1 + 1) (us ++ [.int .i64 11, .int .i64 0, .int .i64 0, .int .u64 0, .slice none 0 0]) (by rfl) (by rw [List.length_append, HGO.out.1, List.length_append, HND.out]; simp only [List.length_cons, List.length_nil]; omega) (owns_news ((hR.ow _ (List.mem_cons_of_mem _ (List.mem_cons_self ..))).own rfl)) (by intro u hu; rcases List.mem_append.1 hu with h | h; (· exact HGO.out.ones u h); (· exact ones11 u h)) (by omega) ?_
                  intro v146 x146 ho146 hg146 hat146
                  replace hR := hR.grow hg146 ho146 hat146
                  obtain ⟨A146, c146, rfl⟩ := owns_slice ho146
                  clear ho146 hg146 hat146
                  refine hK.out _ _ (.inr (⟨hR.bl, (hR.ow _ (List.mem_cons_of_mem _ (List.mem_cons_of_mem _ (List.mem_cons_self ..)))).cells' (c := 3) (by rfl) rfl r _ HZ.out⟩)) ?_
                  clear hK K
                  try simp only [Act.put, List.setIfInBounds_toArray, List.set]
                  refine Rest.one (i := 17) (by kernel_rfl) ?_
                  refine Comes.mk (o := ⟨some 10, _, _, _, _, _⟩) rfl (fun K hK => ?_)
                  go_simp
                  refine hK.out _ _ (.inl rfl) ?_
                  clear hK K
                  refine Rest.done (by kernel_rfl) ?_ _
                  go_wp2
                  go_meet
                  exact ⟨_, _, _, by first | rfl | (congr 1; omega), Lib.hid (wraps_row hR.head HGO.out), Lib.hid (HB40.out.trans (hR.bl.mono HB40.out.size))⟩
                · skip
                  refine Comes.mk (o := ⟨some 45, _, _, _, _, _⟩) rfl (fun K hK => ?_)
                  replace hR := hR.swap
                  refine step_append_row rfl (.tmp 42) (.tmp 44) 34 43 rfl _ 5 56 Try.underlying34 Try.infoInst5 rfl (by decide) (by decide) (.slice A142 (nd + 1) c142) (nd + 1) us (by rfl) hR.head (.slice (some ⟨y129, 0, none⟩) 1 1) 1 [.int .i64 11, .int .i64 0, .int .i64 0, .int .u64 0, .slice none 0 0] (by rfl) (by rfl) (owns_news ((hR.ow _ (List.mem_cons_of_mem _ (List.mem_cons_of_mem _ (List.mem_cons_self ..)))).own rfl)) (by simp [Value.oneCell']) (by omega) ?_
                  intro v147 x147 ho147 hg147 hat147
                  replace hR := hR.grow hg147 ho147 hat147
                  obtain ⟨A147, c147, rfl⟩ := owns_slice ho147
                  clear ho147 hg147 hat147
                  refine hK.out _ _ (.inr (⟨hR.bl, (hR.ow _ (List.mem_cons_of_mem _ (List.mem_cons_self ..))).cells' (c := 3) (by rfl) rfl r _ HZ.out⟩)) ?_
                  clear hK K
                  try simp only [Act.put, List.setIfInBounds_toArray, List.set]
                  refine Rest.one (i := 8) (by kernel_rfl) ?_
                  refine Comes.mk (o := ⟨some 38, _, _, _, _, _⟩) rfl (fun K hK => ?_)
                  go_simp
                  replace hR := hR.lit 43 5 1 #[.int .i64 z, .int .i64 (-1), .int .i64 0, .int .u64 0, .slice none 0 0] rfl (by decide)
                  refine hK.out _ _ (.inr (⟨hR.bl, (hR.ow _ (List.mem_cons_of_mem _ (List.mem_cons_of_mem _ (List.mem_cons_self ..)))).cells' (c := 3) (by rfl) rfl r _ HZ.out⟩)) ?_
                  clear hK K
                  try simp only [List.setIfInBounds_toArray, List.set]
                  generalize hy148 : x147.heap.size = y148 at hR ⊢
                  generalize (x147.alloc (.cells #[.int .i64 z, .int .i64 (-1), .int .i64 0, .int .u64 0, .slice none 0 0] 43)) = x148 at hR ⊢
                  clear hy148
                  refine Rest.one (i := 16) (by kernel_rfl) ?_
                  refine Comes.mk (o := ⟨some 46, _, _, _, _, _⟩) rfl (fun K hK => ?_)
                  refine step_append_row rfl (.tmp 38) (.tmp 45) 34 43 rfl _ 5 56 Try.underlying34 Try.infoInst5 rfl (by decide) (by decide) (.slice (some ⟨y148, 0, none⟩) 1 1) 1 [.int .i64 z, .int .i64 (-1), .int .i64 0, .int .u64 0, .slice none 0 0] (by rfl) hR.head (.slice A147 ((nd + 1) + 1) c147) (nd + 1 + 1) (us ++ [.int .i64 11, .int .i64 0, .int .i64 0, .int .u64 0, .slice none 0 0]) (by rfl) (by rw [List.length_append, HGO.out.1, List.length_append, HND.out]; simp only [List.length_cons, List.length_nil]; omega) (owns_news ((hR.ow _ (List.mem_cons_of_mem _ (List.mem_cons_self ..))).own rfl)) (by intro u hu; rcases List.mem_append.1 hu with h | h; (· exact HGO.out.ones u h); (· exact ones11 u h)) (by omega) ?_
                  intro v149 x149 ho149 hg149 hat149
                  replace hR := hR.grow hg149 ho149 hat149
                  obtain ⟨A149, c149, rfl⟩ := owns_slice ho149
                  clear ho149 hg149 hat149
                  refine hK.out _ _ (.inr (⟨hR.bl, (hR.ow _ (List.mem_cons_of_mem _ (List.mem_cons_of_mem _ (List.mem_cons_self ..)))).cells' (c := 3) (by rfl) rfl r _ HZ.out⟩)) ?_
                  clear hK K
                  try simp only [Act.put, List.setIfInBounds_toArray, List.set]
                  refine Rest.one (i := 17) (by kernel_rfl) ?_
                  refine Comes.mk (o := ⟨some 10, _, _, _, _, _⟩) rfl (fun K hK => ?_)
                  go_simp
                  refine hK.out _ _ (.inl rfl) ?_
                  clear hK K
                  refine Rest.done (by kernel_rfl) ?_ _
                  go_wp2
                  go_meet
                  exact ⟨_, _, _, by first | rfl | (congr 1; omega), Lib.hid (wraps_row hR.head HGO.out), Lib.hid (HB40.out.trans (hR.bl.mono HB40.out.size))⟩
              · skip
                refine Comes.mk (o := ⟨some 45, _, _, _, _, _⟩) rfl (fun K hK => ?_)
                refine step_append_row rfl (.tmp 42) (.tmp 44) 34 43 rfl _ 5 56 Try.underlying34 Try.infoInst5 rfl (by decide) (by decide) (.slice A142 (nd + 1) c142) (nd + 1) us (by rfl) hR.head (.slice (some ⟨y129, 0, none⟩) 1 1) 1 [.int .i64 11, .int .i64 0, .int .i64 0, .int .u64 0, .slice none 0 0] (by rfl) (by rfl) (owns_news ((hR.ow _ (List.mem_cons_of_mem _ (List.mem_cons_self ..))).own rfl)) (by simp [Value.oneCell']) (by omega) ?_
                intro v150 x150 ho150 hg150 hat150
                replace hR := hR.grow hg150 ho150 hat150
                obtain ⟨A150, c150, rfl⟩ := owns_slice ho150
                clear ho150 hg150 hat150
                refine hK.out _ _ (.inr (hR.bl)) ?_
                clear hK K
                try simp only [Act.put, List.setIfInBounds_toArray, List.set]
                refine Rest.one (i := 0) (by kernel_rfl) ?_
                refine Comes.mk (o := ⟨some 30, _, _, _, _, _⟩) rfl (fun K hK => ?_)
                go_simp
                replace hR := hR.lit 3 1 3 #[.int .i64 2, .int .i64 3, .int .i64 4] rfl (by decide)
                refine hK.out _ _ (.inr (hR.bl)) ?_
                clear hK K
                try simp only [List.setIfInBounds_toArray, List.set]
                generalize hy151 : x150.heap.size = y151 at hR ⊢
                generalize (x150.alloc (.cells #[.int .i64 2, .int .i64 3, .int .i64 4] 3)) = x151 at hR ⊢
                clear hy151
                refine Rest.strong (S' := fun w' => Bel w4 w' ∧ w'.cell? ⟨y151, r, none⟩ = some (.int .i64 z)) (fun _ h => h.1) _ _ _ _ ?_
                refine Rest.take (i := 5) (oi := ⟨some 35, _, _, _, _, _⟩) (v := ?_) rfl (by kernel_rfl) (by kernel_rfl) (by kernel_rfl) (by kernel_rfl) (fun _ _ _ h => h) (Or.inl ⟨by rfl, ?_⟩) (⟨hR.bl, (hR.ow _ (List.mem_cons_self ..)).cells' (c := 3) (by rfl) rfl r _ HZ.out⟩) ?_
                rotate_left
                · intro w' hSw; obtain ⟨hSb', hSp⟩ := hSw; have hSb : Below _ _ _ := hSb'; go_simp; try with_reducible rfl
                try simp only [Act.put, List.setIfInBounds_toArray, List.set]
                refine Rest.take (i := 6) (oi := ⟨some 36, _, _, _, _, _⟩) (v := ?_) rfl (by kernel_rfl) (by kernel_rfl) (by kernel_rfl) (by kernel_rfl) (fun _ _ _ h => h) (Or.inl ⟨by rfl, ?_⟩) (⟨hR.bl, (hR.ow _ (List.mem_cons_self ..)).cells' (c := 3) (by rfl) rfl r _ HZ.out⟩) ?_
                rotate_left
                · intro w' hSw; obtain ⟨hSb', hSp⟩ := hSw; have hSb : Below _ _ _ := hSb'; go_simp; try with_reducible rfl
                try simp only [Act.put, List.setIfInBounds_toArray, List.set]
                refine Rest.take (i := 7) (oi := ⟨some 37, _, _, _, _, _⟩) (v := ?_) rfl (by kernel_rfl) (by kernel_rfl) (by kernel_rfl) (by kernel_rfl) (fun _ _ _ h => h) (Or.inl ⟨by rfl, ?_⟩) (⟨hR.bl, (hR.ow _ (List.mem_cons_self ..)).cells' (c := 3) (by rfl) rfl r _ HZ.out⟩) ?_
                rotate_left
                · intro w' hSw; obtain ⟨hSb', hSp⟩ := hSw; have hSb : Below _ _ _ := hSb'; go_simp; try with_reducible rfl
                try simp only [Act.put, List.setIfInBounds_toArray, List.set]
                refine Rest.one (i := 8) (by kernel_rfl) ?_
                refine Comes.mk (o := ⟨some 38, _, _, _, _, _⟩) rfl (fun K hK => ?_)
                go_simp
                replace hR := hR.lit 43 5 1 #[.int .i64 z, .int .i64 (-1), .int .i64 0, .int .u64 0, .slice none 0 0] rfl (by decide)
                refine hK.out _ _ (.inr (⟨hR.bl, (hR.ow _ (List.mem_cons_of_mem _ (List.mem_cons_self ..))).cells' (c := 3) (by rfl) rfl r _ HZ.out⟩)) ?_
                clear hK K
                try simp only [List.setIfInBounds_toArray, List.set]
                generalize hy152 : x151.heap.size = y152 at hR ⊢
                generalize (x151.alloc (.cells #[.int .i64 z, .int .i64 (-1), .int .i64 0, .int .u64 0, .slice none 0 0] 43)) = x152 at hR ⊢
                clear hy152
                refine Rest.one (i := 16) (by kernel_rfl) ?_
                refine Comes.mk (o := ⟨some 46, _, _, _, _, _⟩) rfl (fun K hK => ?_)
                refine step_append_row rfl (.tmp 38) (.tmp 45) 34 43 rfl _ 5 56 Try.underlying34 Try.infoInst5 rfl (by decide) (by decide) (.slice (some ⟨y152, 0, none⟩) 1 1) 1 [.int .i64 z, .int .i64 (-1), .int .i64 0, .int .u64 0, .slice none 0 0] (by rfl) hR.head (.slice A150 ((nd + 1) + 1) c150) (nd + 1 + 1) (us ++ [.int .i64 11, .int .i64 0, .int .i64 0, .int .u64 0, .slice none 0 0]) (by rfl) (by rw [List.length_append, HGO.out.1, List.length_append, HND.out]; simp only [List.length_cons, List.length_nil]; omega) (owns_news ((hR.ow _ (List.mem_cons_of_mem _ (List.mem_cons_of_mem _ (List.mem_cons_self ..)))).own rfl)) (by intro u hu; rcases List.mem_append.1 hu with h | h; (· exact HGO.out.ones u h); (· exact ones11 u h)) (by omega) ?_
                intro v153 x153 ho153 hg153 hat153
                replace hR := hR.grow hg153 ho153 hat153
                obtain ⟨A153, c153, rfl⟩ := owns_slice ho153
                clear ho153 hg153 hat153
                refine hK.out _ _ (.inr (⟨hR.bl, (hR.ow _ (List.mem_cons_of_mem _ (List.mem_cons_self ..))).cells' (c := 3) (by rfl) rfl r _ HZ.out⟩)) ?_
                clear hK K
                try simp only [Act.put, List.setIfInBounds_toArray, List.set]
                refine Rest.one (i := 17) (by kernel_rfl) ?_
                refine Comes.mk (o := ⟨some 10, _, _, _, _, _⟩) rfl (fun K hK => ?_)
                go_simp
                refine hK.out _ _ (.inl rfl) ?_
                clear hK K
                refine Rest.done (by kernel_rfl) ?_ _
                go_wp2
                go_meet
                exact ⟨_, _, _, by first | rfl | (congr 1; omega), Lib.hid (wraps_row hR.head HGO.out), Lib.hid (HB40.out.trans (hR.bl.mono HB40.out.size))⟩
        · skip
          refine Comes.mk (o := ⟨some 44, _, _, _, _, _⟩) rfl (fun K hK => ?_)
          go_simp
          replace hR := hR.lit 43 5 1 #[.int .i64 11, .int .i64 0, .int .i64 0, .int .u64 0, .slice none 0 0] rfl (by decide)
          refine hK.out _ _ (.inr (hR.bl)) ?_
          clear hK K
          try simp only [List.setIfInBounds_toArray, List.set]
          generalize hy154 : w4.heap.size = y154 at hR ⊢
          generalize (w4.alloc (.cells #[.int .i64 11, .int .i64 0, .int .i64 0, .int .u64 0, .slice none 0 0] 43)) = x154 at hR ⊢
          clear hy154
          refine Rest.two (i := 0) (j := 9) (by kernel_rfl) ?_ ?_
          · skip
            refine Comes.mk (o := ⟨some 30, _, _, _, _, _⟩) rfl (fun K hK => ?_)
            go_simp
            replace hR := hR.lit 3 1 3 #[.int .i64 2, .int .i64 3, .int .i64 4] rfl (by decide)
            refine hK.out _ _ (.inr (hR.bl)) ?_
            clear hK K
            try simp only [List.setIfInBounds_toArray, List.set]
            generalize hy155 : x154.heap.size = y155 at hR ⊢
            generalize (x154.alloc (.cells #[.int .i64 2, .int .i64 3, .int .i64 4] 3)) = x155 at hR ⊢
            clear hy155
            refine Rest.strong (S' := fun w' => Bel w4 w' ∧ w'.cell? ⟨y155, r, none⟩ = some (.int .i64 z)) (fun _ h => h.1) _ _ _ _ ?_
            refine Rest.take (i := 5) (oi := ⟨some 35, _, _, _, _, _⟩) (v := ?_) rfl (by kernel_rfl) (by kernel_rfl) (by kernel_rfl) (by kernel_rfl) (fun _ _ _ h => h) (Or.inl ⟨by rfl, ?_⟩) (⟨hR.bl, (hR.ow _ (List.mem_cons_self ..)).cells' (c := 3) (by rfl) rfl r _ HZ.out⟩) ?_
            rotate_left
            · intro w' hSw; obtain ⟨hSb', hSp⟩ := hSw; have hSb : Below _ _ _ := hSb'; go_simp; try with_reducible rfl
            try simp only [Act.put, List.setIfInBounds_toArray, List.set]
            refine Rest.take (i := 6) (oi := ⟨some 36, _, _, _, _, _⟩) (v := ?_) rfl (by kernel_rfl) (by kernel_rfl) (by kernel_rfl) (by kernel_rfl) (fun _ _ _ h => h) (Or.inl ⟨by rfl, ?_⟩) (⟨hR.bl, (hR.ow _ (List.mem_cons_self ..)).cells' (c := 3) (by rfl) rfl r _ HZ.out⟩) ?_
            rotate_left
            · intro w' hSw; obtain ⟨hSb', hSp⟩ := hSw; have hSb : Below _ _ _ := hSb'; go_simp; try with_reducible rfl
            try simp only [Act.put, List.setIfInBounds_toArray, List.set]
            refine Rest.take (i := 7) (oi := ⟨some 37, _, _, _, _, _⟩) (v := ?_) rfl (by kernel_rfl) (by kernel_rfl) (by kernel_rfl) (by kernel_rfl) (fun _ _ _ h => h) (Or.inl ⟨by rfl, ?_⟩) (⟨hR.bl, (hR.ow _ (List.mem_cons_self ..)).cells' (c := 3) (by rfl) rfl r _ HZ.out⟩) ?_
            rotate_left
            · intro w' hSw; obtain ⟨hSb', hSp⟩ := hSw; have hSb : Below _ _ _ := hSb'; go_simp; try with_reducible rfl
            try simp only [Act.put, List.setIfInBounds_toArray, List.set]
            refine Rest.two (i := 8) (j := 9) (by kernel_rfl) ?_ ?_
            · skip
              refine Comes.mk (o := ⟨some 38, _, _, _, _, _⟩) rfl (fun K hK => ?_)
              go_simp
              replace hR := hR.lit 43 5 1 #[.int .i64 z, .int .i64 (-1), .int .i64 0, .int .u64 0, .slice none 0 0] rfl (by decide)
              refine hK.out _ _ (.inr (⟨hR.bl, (hR.ow _ (List.mem_cons_of_mem _ (List.mem_cons_self ..))).cells' (c := 3) (by rfl) rfl r _ HZ.out⟩)) ?_
              clear hK K
              try simp only [List.setIfInBounds_toArray, List.set]
              generalize hy156 : x155.heap.size = y156 at hR ⊢
              generalize (x155.alloc (.cells #[.int .i64 z, .int .i64 (-1), .int .i64 0, .int .u64 0, .slice none 0 0] 43)) = x156 at hR ⊢
              clear hy156
              refine Rest.one (i := 9) (by kernel_rfl) ?_
              refine Comes.mk (o := ⟨some 39, _, _, _, _, _⟩) rfl (fun K hK => ?_)
              go_simp
              replace hR := hR.lit 43 5 0 #[] rfl (by decide)
              refine hK.out _ _ (.inr (⟨hR.bl, (hR.ow _ (List.mem_cons_of_mem _ (List.mem_cons_of_mem _ (List.mem_cons_self ..)))).cells' (c := 3) (by rfl) rfl r _ HZ.out⟩)) ?_
              clear hK K
              try simp only [List.setIfInBounds_toArray, List.set]
              generalize hy157 : x156.heap.size = y157 at hR ⊢
              generalize (x156.alloc (.cells #[] 43)) = x157 at hR ⊢
              clear hy157
              refine Rest.one (i := 12) (by kernel_rfl) ?_
              refine Comes.mk (o := ⟨some 42, _, _, _, _, _⟩) rfl (fun K hK => ?_)
              refine step_append_row rfl (.tmp 39) (.tmp 41) 34 43 rfl _ 5 56 Try.underlying34 Try.infoInst5 rfl (by decide) (by decide) (.slice (some ⟨y157, 0, none⟩) 0 0) 0 [] (by rfl) hR.head (.slice Ac (nd + 1) cc) (nd + 1) us (by rfl) (by rw [HGO.out.1, List.length_append, HND.out]; rfl) (HNW.out _ hR.bl) HGO.out.ones (by omega) ?_
              intro v158 x158 ho158 hg158 hat158
              simp only [Nat.zero_add, List.nil_append] at ho158
              replace hR := hR.grow hg158 ho158 hat158
              obtain ⟨A158, c158, rfl⟩ := owns_slice ho158
              clear ho158 hg158 hat158
              refine hK.out _ _ (.inr (⟨hR.bl, (hR.ow _ (List.mem_cons_of_mem _ (List.mem_cons_of_mem _ (List.mem_cons_self ..)))).cells' (c := 3) (by rfl) rfl r _ HZ.out⟩)) ?_
              clear hK K
              try simp only [Act.put, List.setIfInBounds_toArray, List.set]
              refine Rest.one (i := 15) (by kernel_rfl) ?_
              refine Comes.mk (o := ⟨some 45, _, _, _, _, _⟩) rfl (fun K hK => ?_)
              refine step_append_row rfl (.tmp 42) (.tmp 44) 34 43 rfl _ 5 56 Try.underlying34 Try.infoInst5 rfl (by decide) (by decide) (.slice A158 (nd + 1) c158) (nd + 1) us (by rfl) hR.head (.slice (some ⟨y154, 0, none⟩) 1 1) 1 [.int .i64 11, .int .i64 0, .int .i64 0, .int .u64 0, .slice none 0 0] (by rfl) (by rfl) (owns_news ((hR.ow _ (List.mem_cons_of_mem _ (List.mem_cons_of_mem _ (List.mem_cons_of_mem _ (List.mem_cons_self ..))))).own rfl)) (by simp [Value.oneCell']) (by omega) ?_
              intro v159 x159 ho159 hg159 hat159
              replace hR := hR.grow hg159 ho159 hat159
              obtain ⟨A159, c159, rfl⟩ := owns_slice ho159
              clear ho159 hg159 hat159
              refine hK.out _ _ (.inr (⟨hR.bl, (hR.ow _ (List.mem_cons_of_mem _ (List.mem_cons_of_mem _ (List.mem_cons_self ..)))).cells' (c := 3) (by rfl) rfl r _ HZ.out⟩)) ?_
              clear hK K
              try simp only [Act.put, List.setIfInBounds_toArray, List.set]
              refine Rest.one (i := 16) (by kernel_rfl) ?_
              refine Comes.mk (o := ⟨some 46, _, _, _, _, _⟩) rfl (fun K hK => ?_)
              replace hR := hR.swap
              refine step_append_row rfl (.tmp 38) (.tmp 45) 34 43 rfl _ 5 56 Try.underlying34 Try.infoInst5 rfl (by decide) (by decide) (.slice (some ⟨y156, 0, none⟩) 1 1) 1 [.int .i64 z, .int .i64 (-1), .int .i64 0, .int .u64 0, .slice none 0 0] (by rfl) hR.head (.slice A159 ((nd + 1) + 1) c159) (nd + 1 + 1) (us ++ [.int .i64 11, .int .i64 0, .int .i64 0, .int .u64 0, .slice none 0 0]) (by rfl) (by rw [List.length_append, HGO.out.1, List.length_append, HND.out]; simp only [List.length_cons, List.length_nil]; omega) (owns_news ((hR.ow _ (List.mem_cons_of_mem _ (List.mem_cons_self ..))).own rfl)) (by intro u hu; rcases List.mem_append.1 hu with h | h; (· exact HGO.out.ones u h); (· exact ones11 u h)) (by omega) ?_
              intro v160 x160 ho160 hg160 hat160
              replace hR := hR.grow hg160 ho160 hat160
              obtain ⟨A160, c160, rfl⟩ := owns_slice ho160
              clear ho160 hg160 hat160
              refine hK.out _ _ (.inr (⟨hR.bl, (hR.ow _ (List.mem_cons_of_mem _ (List.mem_cons_of_mem _ (List.mem_cons_self ..)))).cells' (c := 3) (by rfl) rfl r _ HZ.out⟩)) ?_
              clear hK K
              try simp only [Act.put, List.setIfInBounds_toArray, List.set]
              refine Rest.one (i := 17) (by kernel_rfl) ?_
              refine Comes.mk (o := ⟨some 10, _, _, _, _, _⟩) rfl (fun K hK => ?_)
              go_simp
              refine hK.out _ _ (.inl rfl) ?_
              clear hK K
              refine Rest.done (by kernel_rfl) ?_ _
              go_wp2
              go_meet
              exact ⟨_, _, _, by first | rfl | (congr 1; omega), Lib.hid (wraps_row hR.head HGO.out), Lib.hid (HB40.out.trans (hR.bl.mono HB40.out.size))⟩
            · skip
              refine Comes.mk (o := ⟨some 39, _, _, _, _, _⟩) rfl (fun K hK => ?_)
              go_simp
              replace hR := hR.lit 43 5 0 #[] rfl (by decide)
              refine hK.out _ _ (.inr (⟨hR.bl, (hR.ow _ (List.mem_cons_of_mem _ (List.mem_cons_self ..))).cells' (c := 3) (by rfl) rfl r _ HZ.out⟩)) ?_
              clear hK K
              try simp only [List.setIfInBounds_toArray, List.set]
              generalize hy161 : x155.heap.size = y161 at hR ⊢
              generalize (x155.alloc (.cells #[] 43)) = x161 at hR ⊢
              clear hy161
              refine Rest.two (i := 8) (j := 12) (by kernel_rfl) ?_ ?_
              · skip
                refine Comes.mk (o := ⟨some 38, _, _, _, _, _⟩) rfl (fun K hK => ?_)
                go_simp
                replace hR := hR.lit 43 5 1 #[.int .i64 z, .int .i64 (-1), .int .i64 0, .int .u64 0, .slice none 0 0] rfl (by decide)
                refine hK.out _ _ (.inr (⟨hR.bl, (hR.ow _ (List.mem_cons_of_mem _ (List.mem_cons_of_mem _ (List.mem_cons_self ..)))).cells' (c := 3) (by rfl) rfl r _ HZ.out⟩)) ?_
                clear hK K
                try simp only [List.setIfInBounds_toArray, List.set]
                generalize hy162 : x161.heap.size = y162 at hR ⊢
                generalize (x161.alloc (.cells #[.int .i64 z, .int .i64 (-1), .int .i64 0, .int .u64 0, .slice none 0 0] 43)) = x162 at hR ⊢
                clear hy162
                refine Rest.one (i := 12) (by kernel_rfl) ?_
                refine Comes.mk (o := ⟨some 42, _, _, _, _, _⟩) rfl (fun K hK => ?_)
                replace hR := hR.swap
                refine step_append_row rfl (.tmp 39) (.tmp 41) 34 43 rfl _ 5 56 Try.underlying34 Try.infoInst5 rfl (by decide) (by decide) (.slice (some ⟨y161, 0, none⟩) 0 0) 0 [] (by rfl) hR.head (.slice Ac (nd + 1) cc) (nd + 1) us (by rfl) (by rw [HGO.out.1, List.length_append, HND.out]; rfl) (HNW.out _ hR.bl) HGO.out.ones (by omega) ?_
                intro v163 x163 ho163 hg163 hat163
                simp only [Nat.zero_add, List.nil_append] at ho163
                replace hR := hR.grow hg163 ho163 hat163
                obtain ⟨A163, c163, rfl⟩ := owns_slice ho163
                clear ho163 hg163 hat163
                refine hK.out _ _ (.inr (⟨hR.bl, (hR.ow _ (List.mem_cons_of_mem _ (List.mem_cons_of_mem _ (List.mem_cons_self ..)))).cells' (c := 3) (by rfl) rfl r _ HZ.out⟩)) ?_
                clear hK K
                try simp only [Act.put, List.setIfInBounds_toArray, List.set]
                refine Rest.one (i := 15) (by kernel_rfl) ?_
                refine Comes.mk (o := ⟨some 45, _, _, _, _, _⟩) rfl (fun K hK => ?_)
                refine step_append_row rfl (.tmp 42) (.tmp 44) 34 43 rfl _ 5 56 Try.underlying34 Try.infoInst5 rfl (by decide) (by decide) (.slice A163 (nd + 1) c163) (nd + 1) us (by rfl) hR.head (.slice (some ⟨y154, 0, none⟩) 1 1) 1 [.int .i64 11, .int .i64 0, .int .i64 0, .int .u64 0, .slice none 0 0] (by rfl) (by rfl) (owns_news ((hR.ow _ (List.mem_cons_of_mem _ (List.mem_cons_of_mem _ (List.mem_cons_of_mem _ (List.mem_cons_self ..))))).own rfl)) (by simp [Value.oneCell']) (by omega) ?_
                intro v164 x164 ho164 hg164 hat164
                replace hR := hR.grow hg164 ho164 hat164
                obtain ⟨A164, c164, rfl⟩ := owns_slice ho164
                clear ho164 hg164 hat164
                refine hK.out _ _ (.inr (⟨hR.bl, (hR.ow _ (List.mem_cons_of_mem _ (List.mem_cons_of_mem _ (List.mem_cons_self ..)))).cells' (c := 3) (by rfl) rfl r _ HZ.out⟩)) ?_
                clear hK K
                try simp only [Act.put, List.setIfInBounds_toArray, List.set]
                refine Rest.one (i := 16) (by kernel_rfl) ?_
                refine Comes.mk (o := ⟨some 46, _, _, _, _, _⟩) rfl (fun K hK => ?_)
                replace hR := hR.swap
                refine step_append_row rfl (.tmp 38) (.tmp 45) 34 43 rfl _ 5 56 Try.underlying34 Try.infoInst5 rfl (by decide) (by decide) (.slice (some ⟨y162, 0, none⟩) 1 1) 1 [.int .i64 z, .int .i64 (-1), .int .i64 0, .int .u64 0, .slice none 0 0] (by rfl) hR.head (.slice A164 ((nd + 1) + 1) c164) (nd + 1 + 1) (us ++ [.int .i64 11, .int .i64 0, .int .i64 0, .int .u64 0, .slice none 0 0]) (by rfl) (by rw [List.length_append, HGO.out.1, List.length_append, HND.out]; simp only [List.length_cons, List.length_nil]; omega) (owns_news ((hR.ow _ (List.mem_cons_of_mem _ (List.mem_cons_self ..))).own rfl)) (by intro u hu; rcases List.mem_append.1 hu with h | h; (· exact HGO.out.ones u h); (· exact ones11 u h)) (by omega) ?_
                intro v165 x165 ho165 hg165 hat165
                replace hR := hR.grow hg165 ho165 hat165
                obtain ⟨A165, c165, rfl⟩ := owns_slice ho165
                clear ho165 hg165 hat165
                refine hK.out _ _ (.inr (⟨hR.bl, (hR.ow _ (List.mem_cons_of_mem _ (List.mem_cons_of_mem _ (List.mem_cons_self ..)))).cells' (c := 3) (by rfl) rfl r _ HZ.out⟩)) ?_
                clear hK K
                try simp only [Act.put, List.setIfInBounds_toArray, List.set]
                refine Rest.one (i := 17) (by kernel_rfl) ?_
                refine Comes.mk (o := ⟨some 10, _, _, _, _, _⟩) rfl (fun K hK => ?_)
                go_simp
                refine hK.out _ _ (.inl rfl) ?_
                clear hK K
                refine Rest.done (by kernel_rfl) ?_ _
                go_wp2
                go_meet
                exact ⟨_, _, _, by first | rfl | (congr 1; omega), Lib.hid (wraps_row hR.head HGO.out), Lib.hid (HB40.out.trans (hR.bl.mono HB40.out.size))⟩
              · skip
                refine Comes.mk (o := ⟨some 42, _, _, _, _, _⟩) rfl (fun K hK => ?_)
                refine step_append_row rfl (.tmp 39) (.tmp 41) 34 43 rfl _ 5 56 Try.underlying34 Try.infoInst5 rfl (by decide) (by decide) (.slice (some ⟨y161, 0, none⟩) 0 0) 0 [] (by rfl) hR.head (.slice Ac (nd + 1) cc) (nd + 1) us (by rfl) (by rw [HGO.out.1, List.length_append, HND.out]; rfl) (HNW.out _ hR.bl) HGO.out.ones (by omega) ?_
                intro v166 x166 ho166 hg166 hat166
                simp only [Nat.zero_add, List.nil_append] at ho166
                replace hR := hR.grow hg166 ho166 hat166
                obtain ⟨A166, c166, rfl⟩ := owns_slice ho166
                clear ho166 hg166 hat166
                refine hK.out _ _ (.inr (⟨hR.bl, (hR.ow _ (List.mem_cons_of_mem _ (List.mem_cons_self ..))).cells' (c := 3) (by rfl) rfl r _ HZ.out⟩)) ?_
                clear hK K
                try simp only [Act.put, List.setIfInBounds_toArray, List.set]
                refine Rest.two (i := 8) (j := 15) (by kernel_rfl) ?_ ?_
                · skip
                  refine Comes.mk (o := ⟨some 38, _, _, _, _, _⟩) rfl (fun K hK => ?_)
                  go_simp
                  replace hR := hR.lit 43 5 1 #[.int .i64 z, .int .i64 (-1), .int .i64 0, .int .u64 0, .slice none 0 0] rfl (by decide)
                  refine hK.out _ _ (.inr (⟨hR.bl, (hR.ow _ (List.mem_cons_of_mem _ (List.mem_cons_of_mem _ (List.mem_cons_self ..)))).cells' (c := 3) (by rfl) rfl r _ HZ.out⟩)) ?_
                  clear hK K
                  try simp only [List.setIfInBounds_toArray, List.set]
                  generalize hy167 : x166.heap.size = y167 at hR ⊢
                  generalize (x166.alloc (.cells #[.int .i64 z, .int .i64 (-1), .int .i64 0, .int .u64 0, .slice none 0 0] 43)) = x167 at hR ⊢
                  clear hy167
                  refine Rest.one (i := 15) (by kernel_rfl) ?_
                  refine Comes.mk (o := ⟨some 45, _, _, _, _, _⟩) rfl (fun K hK => ?_)
                  replace hR := hR.swap
                  refine step_append_row rfl (.tmp 42) (.tmp 44) 34 43 rfl _ 5 56 Try.underlying34 Try.infoInst5 rfl (by decide) (by decide) (.slice A166 (nd + 1) c166) (nd + 1) us (by rfl) hR.head (.slice (some ⟨y154, 0, none⟩) 1 1) 1 [.int .i64 11, .int .i64 0, .int .i64 0, .int .u64 0, .slice none 0 0] (by rfl) (by rfl) (owns_news ((hR.ow _ (List.mem_cons_of_mem _ (List.mem_cons_of_mem _ (List.mem_cons_of_mem _ (List.mem_cons_self ..))))).own rfl)) (by simp [Value.oneCell']) (by omega) ?_
                  intro v168 x168 ho168 hg168 hat168
                  replace hR := hR.grow hg168 ho168 hat168
                  obtain ⟨A168, c168, rfl⟩ := owns_slice ho168
                  clear ho168 hg168 hat168
                  refine hK.out _ _ (.inr (⟨hR.bl, (hR.ow _ (List.mem_cons_of_mem _ (List.mem_cons_of_mem _ (List.mem_cons_self ..)))).cells' (c := 3) (by rfl) rfl r _ HZ.out⟩)) ?_
                  clear hK K
                  try simp only [Act.put, List.setIfInBounds_toArray, List.set]
                  refine Rest.one (i := 16) (by kernel_rfl) ?_
                  refine Comes.mk (o := ⟨some 46, _, _, _, _, _⟩) rfl (fun K hK => ?_)
                  replace hR := hR.swap
                  refine step_append_row rfl (.tmp 38) (.tmp 45) 34 43 rfl _ 5 56 Try.underlying34 Try.infoInst5 rfl (by decide) (by decide) (.slice (some ⟨y167, 0, none⟩) 1 1) 1 [.int .i64 z, .int .i64 (-1), .int .i64 0, .int .u64 0, .slice none 0 0] (by rfl) hR.head (.slice A168 ((nd + 1) + 1) c168) (nd + 1 + 1) (us ++ [.int .i64 11, .int .i64 0, .int .i64 0, .int .u64 0, .slice none 0 0]) (by rfl) (by rw [List.length_append, HGO.out.1, List.length_append, HND.out]; simp only [List.length_cons, List.length_nil]; omega) (owns_news ((hR.ow _ (List.mem_cons_of_mem _ (List.mem_cons_self ..))).own rfl)) (by intro u hu; rcases List.mem_append.1 hu with h | h; (· exact HGO.out.ones u h); (· exact ones11 u h)) (by omega) ?_
                  intro v169 x169 ho169 hg169 hat169
                  replace hR := hR.grow hg169 ho169 hat169
                  obtain ⟨A169, c169, rfl⟩ := owns_slice ho169
                  clear ho169 hg169 hat169
                  refine hK.out _ _ (.inr (⟨hR.bl, (hR.ow _ (List.mem_cons_of_mem _ (List.mem_cons_of_mem _ (List.mem_cons_self ..)))).cells' (c := 3) (by rfl) rfl r _ HZ.out⟩)) ?_
                  clear hK K
                  try simp only [Act.put, List.setIfInBounds_toArray, List.set]
                  refine Rest.one (i := 17) (by kernel_rfl) ?_
                  refine Comes.mk (o := ⟨some 10, _, _, _, _, _⟩) rfl (fun K hK => ?_)
                  go_simp
                  refine hK.out _ _ (.inl rfl) ?_
                  clear hK K
                  refine Rest.done (by kernel_rfl) ?_ _
                  go_wp2
                  go_meet
                  exact ⟨_, _, _, by first | rfl | (congr 1; omega), Lib.hid (wraps_row hR.head HGO.out), Lib.hid (HB40.out.trans (hR.bl.mono HB40.out.size))⟩
                · skip
                  refine Comes.mk (o := ⟨some 45, _, _, _, _, _⟩) rfl (fun K hK => ?_)
                  refine step_append_row rfl (.tmp 42) (.tmp 44) 34 43 rfl _ 5 56 Try.underlying34 Try.infoInst5 rfl (by decide) (by decide) (.slice A166 (nd + 1) c166) (nd + 1) us (by rfl) hR.head (.slice (some ⟨y154, 0, none⟩) 1 1) 1 [.int .i64 11, .int .i64 0, .int .i64 0, .int .u64 0, .slice none 0 0] (by rfl) (by rfl) (owns_news ((hR.ow _ (List.mem_cons_of_mem _ (List.mem_cons_of_mem _ (List.mem_cons_self ..)))).own rfl)) (by simp [Value.oneCell']) (by omega) ?_
                  intro v170 x170 ho170 hg170 hat170
                  replace hR := hR.grow hg170 ho170 hat170
                  obtain ⟨A170, c170, rfl⟩ := owns_slice ho170
                  clear ho170 hg170 hat170
                  refine hK.out _ _ (.inr (⟨hR.bl, (hR.ow _ (List.mem_cons_of_mem _ (List.mem_cons_self ..))).cells' (c := 3) (by rfl) rfl r _ HZ.out⟩)) ?_
                  clear hK K
                  try simp only [Act.put, List.setIfInBounds_toArray, List.set]
                  refine Rest.one (i := 8) (by kernel_rfl) ?_
                  refine Comes.mk (o := ⟨some 38, _, _, _, _, _⟩) rfl (fun K hK => ?_)
                  go_simp
                  replace hR := hR.lit 43 5 1 #[.int .i64 z, .int .i64 (-1), .int .i64 0, .int .u64 0, .slice none 0 0] rfl (by decide)
                  refine hK.out _ _ (.inr (⟨hR.bl, (hR.ow _ (List.mem_cons_of_mem _ (List.mem_cons_of_mem _ (List.mem_cons_self ..)))).cells' (c := 3) (by rfl) rfl r _ HZ.out⟩)) ?_
                  clear hK K
                  try simp only [List.setIfInBounds_toArray, List.set]
                  generalize hy171 : x170.heap.size = y171 at hR ⊢
                  generalize (x170.alloc (.cells #[.int .i64 z, .int .i64 (-1), .int .i64 0, .int .u64 0, .slice none 0 0] 43)) = x171 at hR ⊢
                  clear hy171
                  refine Rest.one (i := 16) (by kernel_rfl) ?_
                  refine Comes.mk (o := ⟨some 46, _, _, _, _, _⟩) rfl (fun K hK => ?_)
                  refine step_append_row rfl (.tmp 38) (.tmp 45) 34 43 rfl _ 5 56 Try.underlying34 Try.infoInst5 rfl (by decide) (by decide) (.slice (some ⟨y171, 0, none⟩) 1 1) 1 [.int .i64 z, .int .i64 (-1), .int .i64 0, .int .u64 0, .slice none 0 0] (by rfl) hR.head (.slice A170 ((nd + 1) + 1) c170) (nd + 1 + 1) (us ++ [.int .i64 11, .int .i64 0, .int .i64 0, .int .u64 0, .slice none 0 0]) (by rfl) (by rw [List.length_append, HGO.out.1, List.length_append, HND.out]; simp only [List.length_cons, List.length_nil]; omega) (owns_news ((hR.ow _ (List.mem_cons_of_mem _ (List.mem_cons_self ..))).own rfl)) (by intro u hu; rcases List.mem_append.1 hu with h | h; (· exact HGO.out.ones u h); (· exact ones11 u h)) (by omega) ?_
                  intro v172 x172 ho172 hg172 hat172
                  replace hR := hR.grow hg172 ho172 hat172
                  obtain ⟨A172, c172, rfl⟩ := owns_slice ho172
                  clear ho172 hg172 hat172
                  refine hK.out _ _ (.inr (⟨hR.bl, (hR.ow _ (List.mem_cons_of_mem _ (List.mem_cons_of_mem _ (List.mem_cons_self ..)))).cells' (c := 3) (by rfl) rfl r _ HZ.out⟩)) ?_
                  clear hK K
                  try simp only [Act.put, List.setIfInBounds_toArray, List.set]
                  refine Rest.one (i := 17) (by kernel_rfl) ?_
                  refine Comes.mk (o := ⟨some 10, _, _, _, _, _⟩) rfl (fun K hK => ?_)
                  go_simp
                  refine hK.out _ _ (.inl rfl) ?_
                  clear hK K
                  refine Rest.done (by kernel_rfl) ?_ _
                  go_wp2
                  go_meet
                  exact ⟨_, _, _, by first | rfl | (congr 1; omega), Lib.hid (wraps_row hR.head HGO.out), Lib.hid (HB40.out.trans (hR.bl.mono HB40.out.size))⟩
          · skip
            refine Comes.mk (o := ⟨some 39, _, _, _, _, _⟩) rfl (fun K hK => ?_)
            go_simp
            replace hR := hR.lit 43 5 0 #[] rfl (by decide)
            refine hK.out _ _ (.inr (hR.bl)) ?_
            clear hK K
            try simp only [List.setIfInBounds_toArray, List.set]
            generalize hy173 : x154.heap.size = y173 at hR ⊢
            generalize (x154.alloc (.cells #[] 43)) = x173 at hR ⊢
            clear hy173
            refine Rest.two (i := 0) (j := 12) (by kernel_rfl) ?_ ?_
            · skip
              refine Comes.mk (o := ⟨some 30, _, _, _, _, _⟩) rfl (fun K hK => ?_)
              go_simp
              replace hR := hR.lit 3 1 3 #[.int .i64 2, .int .i64 3, .int .i64 4] rfl (by decide)
              refine hK.out _ _ (.inr (hR.bl)) ?_
              clear hK K
              try simp only [List.setIfInBounds_toArray, List.set]
              generalize hy174 : x173.heap.size = y174 at hR ⊢
              generalize (x173.alloc (.cells #[.int .i64 2, .int .i64 3, .int .i64 4] 3)) = x174 at hR ⊢
              clear hy174
              refine Rest.strong (S' := fun w' => Bel w4 w' ∧ w'.cell? ⟨y174, r, none⟩ = some (.int .i64 z)) (fun _ h => h.1) _ _ _ _ ?_
              refine Rest.take (i := 5) (oi := ⟨some 35, _, _, _, _, _⟩) (v := ?_) rfl (by kernel_rfl) (by kernel_rfl) (by kernel_rfl) (by kernel_rfl) (fun _ _ _ h => h) (Or.inl ⟨by rfl, ?_⟩) (⟨hR.bl, (hR.ow _ (List.mem_cons_self ..)).cells' (c := 3) (by rfl) rfl r _ HZ.out⟩) ?_
              rotate_left
              · intro w' hSw; obtain ⟨hSb', hSp⟩ := hSw; have hSb : Below _ _ _ := hSb'; go_simp; try with_reducible rfl
              try simp only [Act.put, List.setIfInBounds_toArray, List.set]
              refine Rest.take (i := 6) (oi := ⟨some 36, _, _, _, _, _⟩) (v := ?_) rfl (by kernel_rfl) (by kernel_rfl) (by kernel_rfl) (by kernel_rfl) (fun _ _ _ h => h) (Or.inl ⟨by rfl, ?_⟩) (⟨hR.bl, (hR.ow _ (List.mem_cons_self ..)).cells' (c := 3) (by rfl) rfl r _ HZ.out⟩) ?_
              rotate_left
              · intro w' hSw; obtain ⟨hSb', hSp⟩ := hSw; have hSb : Below _ _ _ := hSb'; go_simp; try with_reducible rfl
              try simp only [Act.put, List.setIfInBounds_toArray, List.set]
              refine Rest.take (i := 7) (oi := ⟨some 37, _, _, _, _, _⟩) (v := ?_) rfl (by kernel_rfl) (by kernel_rfl) (by kernel_rfl) (by kernel_rfl) (fun _ _ _ h => h) (Or.inl ⟨by rfl, ?_⟩) (⟨hR.bl, (hR.ow _ (List.mem_cons_self ..)).cells' (c := 3) (by rfl) rfl r _ HZ.out⟩) ?_
              rotate_left
              · intro w' hSw; obtain ⟨hSb', hSp⟩ := hSw; have hSb : Below _ _ _ := hSb'; go_simp; try with_reducible rfl
              try simp only [Act.put, List.setIfInBounds_toArray, List.set]
              refine Rest.two (i := 8) (j := 12) (by kernel_rfl) ?_ ?_
              · skip
                refine Comes.mk (o := ⟨some 38, _, _, _, _, _⟩) rfl (fun K hK => ?_)
                go_simp
                replace hR := hR.lit 43 5 1 #[.int .i64 z, .int .i64 (-1), .int .i64 0, .int .u64 0, .slice none 0 0] rfl (by decide)
                refine hK.out _ _ (.inr (⟨hR.bl, (hR.ow _ (List.mem_cons_of_mem _ (List.mem_cons_self ..))).cells' (c := 3) (by rfl) rfl r _ HZ.out⟩)) ?_
                clear hK K
                try simp only [List.setIfInBounds_toArray, List.set]
                generalize hy175 : x174.heap.size = y175 at hR ⊢
                generalize (x174.alloc (.cells #[.int .i64 z, .int .i64 (-1), .int .i64 0, .int .u64 0, .slice none 0 0] 43)) = x175 at hR ⊢
                clear hy175
                refine Rest.one (i := 12) (by kernel_rfl) ?_
                refine Comes.mk (o := ⟨some 42, _, _, _, _, _⟩) rfl (fun K hK => ?_)
                replace hR := hR.pull3
                refine step_append_row rfl (.tmp 39) (.tmp 41) 34 43 rfl _ 5 56 Try.underlying34 Try.infoInst5 rfl (by decide) (by decide) (.slice (some ⟨y173, 0, none⟩) 0 0) 0 [] (by rfl) hR.head (.slice Ac (nd + 1) cc) (nd + 1) us (by rfl) (by rw [HGO.out.1, List.length_append, HND.out]; rfl) (HNW.out _ hR.bl) HGO.out.ones (by omega) ?_
                intro v176 x176 ho176 hg176 hat176
                simp only [Nat.zero_add, List.nil_append] at ho176
                replace hR := hR.grow hg176 ho176 hat176
                obtain ⟨A176, c176, rfl⟩ := owns_slice ho176
                clear ho176 hg176 hat176
                refine hK.out _ _ (.inr (⟨hR.bl, (hR.ow _ (List.mem_cons_of_mem _ (List.mem_cons_of_mem _ (List.mem_cons_self ..)))).cells' (c := 3) (by rfl) rfl r _ HZ.out⟩)) ?_
                clear hK K
                try simp only [Act.put, List.setIfInBounds_toArray, List.set]
                refine Rest.one (i := 15) (by kernel_rfl) ?_
                refine Comes.mk (o := ⟨some 45, _, _, _, _, _⟩) rfl (fun K hK => ?_)
                refine step_append_row rfl (.tmp 42) (.tmp 44) 34 43 rfl _ 5 56 Try.underlying34 Try.infoInst5 rfl (by decide) (by decide) (.slice A176 (nd + 1) c176) (nd + 1) us (by rfl) hR.head (.slice (some ⟨y154, 0, none⟩) 1 1) 1 [.int .i64 11, .int .i64 0, .int .i64 0, .int .u64 0, .slice none 0 0] (by rfl) (by rfl) (owns_news ((hR.ow _ (List.mem_cons_of_mem _ (List.mem_cons_of_mem _ (List.mem_cons_of_mem _ (List.mem_cons_self ..))))).own rfl)) (by simp [Value.oneCell']) (by omega) ?_
                intro v177 x177 ho177 hg177 hat177
                replace hR := hR.grow hg177 ho177 hat177
                obtain ⟨A177, c177, rfl⟩ := owns_slice ho177
                clear ho177 hg177 hat177
                refine hK.out _ _ (.inr (⟨hR.bl, (hR.ow _ (List.mem_cons_of_mem _ (List.mem_cons_of_mem _ (List.mem_cons_self ..)))).cells' (c := 3) (by rfl) rfl r _ HZ.out⟩)) ?_
                clear hK K
                try simp only [Act.put, List.setIfInBounds_toArray, List.set]
                refine Rest.one (i := 16) (by kernel_rfl) ?_
                refine Comes.mk (o := ⟨some 46, _, _, _, _, _⟩) rfl (fun K hK => ?_)
                replace hR := hR.swap
                refine step_append_row rfl (.tmp 38) (.tmp 45) 34 43 rfl _ 5 56 Try.underlying34 Try.infoInst5 rfl (by decide) (by decide) (.slice (some ⟨y175, 0, none⟩) 1 1) 1 [.int .i64 z, .int .i64 (-1), .int .i64 0, .int .u64 0, .slice none 0 0] (by rfl) hR.head (.slice A177 ((nd + 1) + 1) c177) (nd + 1 + 1) (us ++ [.int .i64 11, .int .i64 0, .int .i64 0, .int .u64 0, .slice none 0 0]) (by rfl) (by rw [List.length_append, HGO.out.1, List.length_append, HND.out]; simp only [List.length_cons, List.length_nil]; omega) (owns_news ((hR.ow _ (List.mem_cons_of_mem _ (List.mem_cons_self ..))).own rfl)) (by intro u hu; rcases List.mem_append.1 hu with h | h; (· exact HGO.out.ones u h); (· exact ones11 u h)) (by omega) ?_
                intro v178 x178 ho178 hg178 hat178
                replace hR := hR.grow hg178 ho178 hat178
                obtain ⟨A178, c178, rfl⟩ := owns_slice ho178
                clear ho178 hg178 hat178
                refine hK.out _ _ (.inr (⟨hR.bl, (hR.ow _ (List.mem_cons_of_mem _ (List.mem_cons_of_mem _ (List.mem_cons_self ..)))).cells' (c := 3) (by rfl) rfl r _ HZ.out⟩)) ?_
                clear hK K
                try simp only [Act.put, List.setIfInBounds_toArray, List.set]
                refine Rest.one (i := 17) (by kernel_rfl) ?_
                refine Comes.mk (o := ⟨some 10, _, _, _, _, _⟩) rfl (fun K hK => ?_)
                go_simp
                refine hK.out _ _ (.inl rfl) ?_
                clear hK K
                refine Rest.done (by kernel_rfl) ?_ _
                go_wp2
                go_meet
                exact ⟨_, _, _, by first | rfl | (congr 1; omega), Lib.hid (wraps_row hR.head HGO.out), Lib.hid (HB40.out.trans (hR.bl.mono HB40.out.size))⟩
              · skip
                refine Comes.mk (o := ⟨some 42, _, _, _, _, _⟩) rfl (fun K hK => ?_)
                replace hR := hR.swap
                refine step_append_row rfl (.tmp 39) (.tmp 41) 34 43 rfl _ 5 56 Try.underlying34 Try.infoInst5 rfl (by decide) (by decide) (.slice (some ⟨y173, 0, none⟩) 0 0) 0 [] (by rfl) hR.head (.slice Ac (nd + 1) cc) (nd + 1) us (by rfl) (by rw [HGO.out.1, List.length_append, HND.out]; rfl) (HNW.out _ hR.bl) HGO.out.ones (by omega) ?_
                intro v179 x179 ho179 hg179 hat179
                simp only [Nat.zero_add, List.nil_append] at ho179
                replace hR := hR.grow hg179 ho179 hat179
                obtain ⟨A179, c179, rfl⟩ := owns_slice ho179
                clear ho179 hg179 hat179
                refine hK.out _ _ (.inr (⟨hR.bl, (hR.ow _ (List.mem_cons_of_mem _ (List.mem_cons_self ..))).cells' (c := 3) (by rfl) rfl r _ HZ.out⟩)) ?_
                clear hK K
                try simp only [Act.put, List.setIfInBounds_toArray, List.set]
                refine Rest.two (i := 8) (j := 15) (by kernel_rfl) ?_ ?_
                · skip
                  refine Comes.mk (o := ⟨some 38, _, _, _, _, _⟩) rfl (fun K hK => ?_)
                  go_simp
                  replace hR := hR.lit 43 5 1 #[.int .i64 z, .int .i64 (-1), .int .i64 0, .int .u64 0, .slice none 0 0] rfl (by decide)
                  refine hK.out _ _ (.inr (⟨hR.bl, (hR.ow _ (List.mem_cons_of_mem _ (List.mem_cons_of_mem _ (List.mem_cons_self ..)))).cells' (c := 3) (by rfl) rfl r _ HZ.out⟩)) ?_
                  clear hK K
                  try simp only [List.setIfInBounds_toArray, List.set]
                  generalize hy180 : x179.heap.size = y180 at hR ⊢
                  generalize (x179.alloc (.cells #[.int .i64 z, .int .i64 (-1), .int .i64 0, .int .u64 0, .slice none 0 0] 43)) = x180 at hR ⊢
                  clear hy180
                  refine Rest.one (i := 15) (by kernel_rfl) ?_
                  refine Comes.mk (o := ⟨some 45, _, _, _, _, _⟩) rfl (fun K hK => ?_)
                  replace hR := hR.swap
                  refine step_append_row rfl (.tmp 42) (.tmp 44) 34 43 rfl _ 5 56 Try.underlying34 Try.infoInst5 rfl (by decide) (by decide) (.slice A179 (nd + 1) c179) (nd + 1) us (by rfl) hR.head (.slice (some ⟨y154, 0, none⟩) 1 1) 1 [.int .i64 11, .int .i64 0, .int .i64 0, .int .u64 0, .slice none 0 0] (by rfl) (by rfl) (owns_news ((hR.ow _ (List.mem_cons_of_mem _ (List.mem_cons_of_mem _ (List.mem_cons_of_mem _ (List.mem_cons_self ..))))).own rfl)) (by simp [Value.oneCell']) (by omega) ?_
                  intro v181 x181 ho181 hg181 hat181
                  replace hR := hR.grow hg181 ho181 hat181
                  obtain ⟨A181, c181, rfl⟩ := owns_slice ho181
                  clear ho181 hg181 hat181
                  refine hK.out _ _ (.inr (⟨hR.bl, (hR.ow _ (List.mem_cons_of_mem _ (List.mem_cons_of_mem _ (List.mem_cons_self ..)))).cells' (c := 3) (by rfl) rfl r _ HZ.out⟩)) ?_
                  clear hK K
                  try simp only [Act.put, List.setIfInBounds_toArray, List.set]
                  refine Rest.one (i := 16) (by kernel_rfl) ?_
                  refine Comes.mk (o := ⟨some 46, _, _, _, _, _⟩) rfl (fun K hK => ?_)
                  replace hR := hR.swap
                  refine step_append_row rfl (.tmp 38) (.tmp 45) 34 43 rfl _ 5 56 Try.underlying34 Try.infoInst5 rfl (by decide) (by decide) (.slice (some ⟨y180, 0, none⟩) 1 1) 1 [.int .i64 z, .int .i64 (-1), .int .i64 0, .int .u64 0, .slice none 0 0] (by rfl) hR.head (.slice A181 ((nd + 1) + 1) c181) (nd + 1 + 1) (us ++ [.int .i64 11, .int .i64 0, .int .i64 0, .int .u64 0, .slice none 0 0]) (by rfl) (by rw [List.length_append, HGO.out.1, List.length_append, HND.out]; simp only [List.length_cons, List.length_nil]; omega) (owns_news ((hR.ow _ (List.mem_cons_of_mem _ (List.mem_cons_self ..))).own rfl)) (by intro u hu; rcases List.mem_append.1 hu with h | h; (· exact HGO.out.ones u h); (· exact ones11 u h)) (by omega) ?_
                  intro v182 x182 ho182 hg182 hat182
                  replace hR := hR.grow hg182 ho182 hat182
                  obtain ⟨A182, c182, rfl⟩ := owns_slice ho182
                  clear ho182 hg182 hat182
                  refine hK.out _ _ (.inr (⟨hR.bl, (hR.ow _ (List.mem_cons_of_mem _ (List.mem_cons_of_mem _ (List.mem_cons_self ..)))).cells' (c := 3) (by rfl) rfl r _ HZ.out⟩)) ?_
                  clear hK K
                  try simp only [Act.put, List.setIfInBounds_toArray, List.set]
                  refine Rest.one (i := 17) (by kernel_rfl) ?_
                  refine Comes.mk (o := ⟨some 10, _, _, _, _, _⟩) rfl (fun K hK => ?_)
                  go_simp
                  refine hK.out _ _ (.inl rfl) ?_
                  clear hK K
                  refine Rest.done (by kernel_rfl) ?_ _
                  go_wp2
                  go_meet
                  exact ⟨_, _, _, by first | rfl | (congr 1; omega), Lib.hid (wraps_row hR.head HGO.out), Lib.hid (HB40.out.trans (hR.bl.mono HB40.out.size))⟩
                · skip
                  refine Comes.mk (o := ⟨some 45, _, _, _, _, _⟩) rfl (fun K hK => ?_)
                  refine step_append_row rfl (.tmp 42) (.tmp 44) 34 43 rfl _ 5 56 Try.underlying34 Try.infoInst5 rfl (by decide) (by decide) (.slice A179 (nd + 1) c179) (nd + 1) us (by rfl) hR.head (.slice (some ⟨y154, 0, none⟩) 1 1) 1 [.int .i64 11, .int .i64 0, .int .i64 0, .int .u64 0, .slice none 0 0] (by rfl) (by rfl) (owns_news ((hR.ow _ (List.mem_cons_of_mem _ (List.mem_cons_of_mem _ (List.mem_cons_self ..)))).own rfl)) (by simp [Value.oneCell']) (by omega) ?_
                  intro v183 x183 ho183 hg183 hat183
                  replace hR := hR.grow hg183 ho183 hat183
                  obtain ⟨A183, c183, rfl⟩ := owns_slice ho183
                  clear ho183 hg183 hat183
                  refine hK.out _ _ (.inr (⟨hR.bl, (hR.ow _ (List.mem_cons_of_mem _ (List.mem_cons_self ..))).cells' (c := 3) (by rfl) rfl r _ HZ.out⟩)) ?_
                  clear hK K
                  try simp only [Act.put, List.setIfInBounds_toArray, List.set]
                  refine Rest.one (i := 8) (by kernel_rfl) ?_
                  refine Comes.mk (o := ⟨some 38, _, _, _, _, _⟩) rfl (fun K hK => ?_)
                  go_simp
                  replace hR := hR.lit 43 5 1 #[.int .i64 z, .int .i64 (-1), .int .i64 0, .int .u64 0, .slice none 0 0] rfl (by decide)
                  refine hK.out _ _ (.inr (⟨hR.bl, (hR.ow _ (List.mem_cons_of_mem _ (List.mem_cons_of_mem _ (List.mem_cons_self ..)))).cells' (c := 3) (by rfl) rfl r _ HZ.out⟩)) ?_
                  clear hK K
                  try simp only [List.setIfInBounds_toArray, List.set]
                  generalize hy184 : x183.heap.size = y184 at hR ⊢
                  generalize (x183.alloc (.cells #[.int .i64 z, .int .i64 (-1), .int .i64 0, .int .u64 0, .slice none 0 0] 43)) = x184 at hR ⊢
                  clear hy184
                  refine Rest.one (i := 16) (by kernel_rfl) ?_
                  refine Comes.mk (o := ⟨some 46, _, _, _, _, _⟩) rfl (fun K hK => ?_)
                  refine step_append_row rfl (.tmp 38) (.tmp 45) 34 43 rfl _ 5 56 Try.underlying34 Try.infoInst5 rfl (by decide) (by decide) (.slice (some ⟨y184, 0, none⟩) 1 1) 1 [.int .i64 z, .int .i64 (-1), .int .i64 0, .int .u64 0, .slice none 0 0] (by rfl) hR.head (.slice A183 ((nd + 1) + 1) c183) (nd + 1 + 1) (us ++ [.int .i64 11, .int .i64 0, .int .i64 0, .int .u64 0, .slice none 0 0]) (by rfl) (by rw [List.length_append, HGO.out.1, List.length_append, HND.out]; simp only [List.length_cons, List.length_nil]; omega) (owns_news ((hR.ow _ (List.mem_cons_of_mem _ (List.mem_cons_self ..))).own rfl)) (by intro u hu; rcases List.mem_append.1 hu with h | h; (· exact HGO.out.ones u h); (· exact ones11 u h)) (by omega) ?_
                  intro v185 x185 ho185 hg185 hat185
                  replace hR := hR.grow hg185 ho185 hat185
                  obtain ⟨A185, c185, rfl⟩ := owns_slice ho185
                  clear ho185 hg185 hat185
                  refine hK.out _ _ (.inr (⟨hR.bl, (hR.ow _ (List.mem_cons_of_mem _ (List.mem_cons_of_mem _ (List.mem_cons_self ..)))).cells' (c := 3) (by rfl) rfl r _ HZ.out⟩)) ?_
                  clear hK K
                  try simp only [Act.put, List.setIfInBounds_toArray, List.set]
                  refine Rest.one (i := 17) (by kernel_rfl) ?_
                  refine Comes.mk (o := ⟨some 10, _, _, _, _, _⟩) rfl (fun K hK => ?_)
                  go_simp
                  refine hK.out _ _ (.inl rfl) ?_
                  clear hK K
                  refine Rest.done (by kernel_rfl) ?_ _
                  go_wp2
                  go_meet
                  exact ⟨_, _, _, by first | rfl | (congr 1; omega), Lib.hid (wraps_row hR.head HGO.out), Lib.hid (HB40.out.trans (hR.bl.mono HB40.out.size))⟩
            · skip
              refine Comes.mk (o := ⟨some 42, _, _, _, _, _⟩) rfl (fun K hK => ?_)
              refine step_append_row rfl (.tmp 39) (.tmp 41) 34 43 rfl _ 5 56 Try.underlying34 Try.infoInst5 rfl (by decide) (by decide) (.slice (some ⟨y173, 0, none⟩) 0 0) 0 [] (by rfl) hR.head (.slice Ac (nd + 1) cc) (nd + 1) us (by rfl) (by rw [HGO.out.1, List.length_append, HND.out]; rfl) (HNW.out _ hR.bl) HGO.out.ones (by omega) ?_
              intro v186 x186 ho186 hg186 hat186
              simp only [Nat.zero_add, List.nil_append] at ho186
              replace hR := hR.grow hg186 ho186 hat186
              obtain ⟨A186, c186, rfl⟩ := owns_slice ho186
              clear ho186 hg186 hat186
              refine hK.out _ _ (.inr (hR.bl)) ?_
              clear hK K
              try simp only [Act.put, List.setIfInBounds_toArray, List.set]
              refine Rest.two (i := 0) (j := 15) (by kernel_rfl) ?_ ?_
              · skip
                refine Comes.mk (o := ⟨some 30, _, _, _, _, _⟩) rfl (fun K hK => ?_)
                go_simp
                replace hR := hR.lit 3 1 3 #[.int .i64 2, .int .i64 3, .int .i64 4] rfl (by decide)
                refine hK.out _ _ (.inr (hR.bl)) ?_
                clear hK K
                try simp only [List.setIfInBounds_toArray, List.set]
                generalize hy187 : x186.heap.size = y187 at hR ⊢
                generalize (x186.alloc (.cells #[.int .i64 2, .int .i64 3, .int .i64 4] 3)) = x187 at hR ⊢
                clear hy187
                refine Rest.strong (S' := fun w' => Bel w4 w' ∧ w'.cell? ⟨y187, r, none⟩ = some (.int .i64 z)) (fun _ h => h.1) _ _ _ _ ?_
                refine Rest.take (i := 5) (oi := ⟨some 35, _, _, _, _, _⟩) (v := ?_) rfl (by kernel_rfl) (by kernel_rfl) (by kernel_rfl) (by kernel_rfl) (fun _ _ _ h => h) (Or.inl ⟨by rfl, ?_⟩) (⟨hR.bl, (hR.ow _ (List.mem_cons_self ..)).cells' (c := 3) (by rfl) rfl r _ HZ.out⟩) ?_
                rotate_left
                · intro w' hSw; obtain ⟨hSb', hSp⟩ := hSw; have hSb : Below _ _ _ := hSb'; go_simp; try with_reducible rfl
                try simp only [Act.put, List.setIfInBounds_toArray, List.set]
                refine Rest.take (i := 6) (oi := ⟨some 36, _, _, _, _, _⟩) (v := ?_) rfl (by kernel_rfl) (by kernel_rfl) (by kernel_rfl) (by kernel_rfl) (fun _ _ _ h => h) (Or.inl ⟨by rfl, ?_⟩) (⟨hR.bl, (hR.ow _ (List.mem_cons_self ..)).cells' (c := 3) (by rfl) rfl r _ HZ.out⟩) ?_
                rotate_left
                · intro w' hSw; obtain ⟨hSb', hSp⟩ := hSw; have hSb : Below _ _ _ := hSb'; go_simp; try with_reducible rfl
                try simp only [Act.put, List.setIfInBounds_toArray, List.set]
                refine Rest.take (i := 7) (oi := ⟨some 37, _, _, _, _, _⟩) (v := ?_) rfl (by kernel_rfl) (by kernel_rfl) (by kernel_rfl) (by kernel_rfl) (fun _ _ _ h => h) (Or.inl ⟨by rfl, ?_⟩) (⟨hR.bl, (hR.ow _ (List.mem_cons_self ..)).cells' (c := 3) (by rfl) rfl r _ HZ.out⟩) ?_
                rotate_left
                · intro w' hSw; obtain ⟨hSb', hSp⟩ := hSw; have hSb : Below _ _ _ := hSb'; go_simp; try with_reducible rfl
                try simp only [Act.put, List.setIfInBounds_toArray, List.set]
                refine Rest.two (i := 8) (j := 15) (by kernel_rfl) ?_ ?_
                · skip
                  refine Comes.mk (o := ⟨some 38, _, _, _, _, _⟩) rfl (fun K hK => ?_)
                  go_simp
                  replace hR := hR.lit 43 5 1 #[.int .i64 z, .int .i64 (-1), .int .i64 0, .int .u64 0, .slice none 0 0] rfl (by decide)
                  refine hK.out _ _ (.inr (⟨hR.bl, (hR.ow _ (List.mem_cons_of_mem _ (List.mem_cons_self ..))).cells' (c := 3) (by rfl) rfl r _ HZ.out⟩)) ?_
                  clear hK K
                  try simp only [List.setIfInBounds_toArray, List.set]
                  generalize hy188 : x187.heap.size = y188 at hR ⊢
                  generalize (x187.alloc (.cells #[.int .i64 z, .int .i64 (-1), .int .i64 0, .int .u64 0, .slice none 0 0] 43)) = x188 at hR ⊢
                  clear hy188
                  refine Rest.one (i := 15) (by kernel_rfl) ?_
                  refine Comes.mk (o := ⟨some 45, _, _, _, _, _⟩) rfl (fun K hK => ?_)
                  replace hR := hR.pull3
                  refine step_append_row rfl (.tmp 42) (.tmp 44) 34 43 rfl _ 5 56 Try.underlying34 Try.infoInst5 rfl (by decide) (by decide) (.slice A186 (nd + 1) c186) (nd + 1) us (by rfl) hR.head (.slice (some ⟨y154, 0, none⟩) 1 1) 1 [.int .i64 11, .int .i64 0, .int .i64 0, .int .u64 0, .slice none 0 0] (by rfl) (by rfl) (owns_news ((hR.ow _ (List.mem_cons_of_mem _ (List.mem_cons_of_mem _ (List.mem_cons_of_mem _ (List.mem_cons_self ..))))).own rfl)) (by simp [Value.oneCell']) (by omega) ?_
                  intro v189 x189 ho189 hg189 hat189
                  replace hR := hR.grow hg189 ho189 hat189
                  obtain ⟨A189, c189, rfl⟩ := owns_slice ho189
                  clear ho189 hg189 hat189
                  refine hK.out _ _ (.inr (⟨hR.bl, (hR.ow _ (List.mem_cons_of_mem _ (List.mem_cons_of_mem _ (List.mem_cons_self ..)))).cells' (c := 3) (by rfl) rfl r _ HZ.out⟩)) ?_
                  clear hK K
                  try simp only [Act.put, List.setIfInBounds_toArray, List.set]
                  refine Rest.one (i := 16) (by kernel_rfl) ?_
                  refine Comes.mk (o := ⟨some 46, _, _, _, _, _⟩) rfl (fun K hK => ?_)
                  replace hR := hR.swap
                  refine step_append_row rfl (.tmp 38) (.tmp 45) 34 43 rfl _ 5 56 Try.underlying34 Try.infoInst5 rfl (by decide) (by decide) (.slice (some ⟨y188, 0, none⟩) 1 1) 1 [.int .i64 z, .int .i64 (-1), .int .i64 0, .int .u64 0, .slice none 0 0] (by rfl) hR.head (.slice A189 ((nd + 1) + 1) c189) (nd + 1 + 1) (us ++ [.int .i64 11, .int .i64 0, .int .i64 0, .int .u64 0, .slice none 0 0]) (by rfl) (by rw [List.length_append, HGO.out.1, List.length_append, HND.out]; simp only [List.length_cons, List.length_nil]; omega) (owns_news ((hR.ow _ (List.mem_cons_of_mem _ (List.mem_cons_self ..))).own rfl)) (by intro u hu; rcases List.mem_append.1 hu with h | h; (· exact HGO.out.ones u h); (· exact ones11 u h)) (by omega) ?_
                  intro v190 x190 ho190 hg190 hat190
                  replace hR := hR.grow hg190 ho190 hat190
                  obtain ⟨A190, c190, rfl⟩ := owns_slice ho190
                  clear ho190 hg190 hat190
                  refine hK.out _ _ (.inr (⟨hR.bl, (hR.ow _ (List.mem_cons_of_mem _ (List.mem_cons_of_mem _ (List.mem_cons_self ..)))).cells' (c := 3) (by rfl) rfl r _ HZ.out⟩)) ?_
                  clear hK K
                  try simp only [Act.put, List.setIfInBounds_toArray, List.set]
                  refine Rest.one (i := 17) (by kernel_rfl) ?_
                  refine Comes.mk (o := ⟨some 10, _, _, _, _, _⟩) rfl (fun K hK => ?_)
                  go_simp
                  refine hK.out _ _ (.inl rfl) ?_
                  clear hK K
                  refine Rest.done (by kernel_rfl) ?_ _
                  go_wp2
                  go_meet
                  exact ⟨_, _, _, by first | rfl | (congr 1; omega), Lib.hid (wraps_row hR.head HGO.out), Lib.hid (HB40.out.trans (hR.bl.mono HB40.out.size))⟩
                · skip
                  refine Comes.mk (o := ⟨some 45, _, _, _, _, _⟩) rfl (fun K hK => ?_)
                  replace hR := hR.swap
                  refine step_append_row rfl (.tmp 42) (.tmp 44) 34 43 rfl _ 5 56 Try.underlying34 Try.infoInst5 rfl (by decide) (by decide) (.slice A186 (nd + 1) c186) (nd + 1) us (by rfl) hR.head (.slice (some ⟨y154, 0, none⟩) 1 1) 1 [.int .i64 11, .int .i64 0, .int .i64 0, .int .u64 0, .slice none 0 0] (by rfl) (by rfl) (owns_news ((hR.ow _ (List.mem_cons_of_mem _ (List.mem_cons_of_mem _ (List.mem_cons_self ..)))).own rfl)) (by simp [Value.oneCell']) (by omega) ?_
                  intro v191 x191 ho191 hg191 hat191
                  replace hR := hR.grow hg191 ho191 hat191
                  obtain ⟨A191, c191, rfl⟩ := owns_slice ho191
                  clear ho191 hg191 hat191
                  refine hK.out _ _ (.inr (⟨hR.bl, (hR.ow _ (List.mem_cons_of_mem _ (List.mem_cons_self ..))).cells' (c := 3) (by rfl) rfl r _ HZ.out⟩)) ?_
                  clear hK K
                  try simp only [Act.put, List.setIfInBounds_toArray, List.set]
                  refine Rest.one (i := 8) (by kernel_rfl) ?_
                  refine Comes.mk (o := ⟨some 38, _, _, _, _, _⟩) rfl (fun K hK => ?_)
                  go_simp
                  replace hR := hR.lit 43 5 1 #[.int .i64 z, .int .i64 (-1), .int .i64 0, .int .u64 0, .slice none 0 0] rfl (by decide)
                  refine hK.out _ _ (.inr (⟨hR.bl, (hR.ow _ (List.mem_cons_of_mem _ (List.mem_cons_of_mem _ (List.mem_cons_self ..)))).cells' (c := 3) (by rfl) rfl r _ HZ.out⟩)) ?_
                  clear hK K
                  try simp only [List.setIfInBounds_toArray, List.set]
                  generalize hy192 : x191.heap.size = y192 at hR ⊢
                  generalize (x191.alloc (.cells #[.int .i64 z, .int .i64 (-1), .int .i64 0, .int .u64 0, .slice none 0 0] 43)) = x192 at hR ⊢
                  clear hy192
                  refine Rest.one (i := 16) (by kernel_rfl) ?_
                  refine Comes.mk (o := ⟨some 46, _, _, _, _, _⟩) rfl (fun K hK => ?_)
                  refine step_append_row rfl (.tmp 38) (.tmp 45) 34 43 rfl _ 5 56 Try.underlying34 Try.infoInst5 rfl (by decide) (by decide) (.slice (some ⟨y192, 0, none⟩) 1 1) 1 [.int .i64 z, .int .i64 (-1), .int .i64 0, .int .u64 0, .slice none 0 0] (by rfl) hR.head (.slice A191 ((nd + 1) + 1) c191) (nd + 1 + 1) (us ++ [.int .i64 11, .int .i64 0, .int .i64 0, .int .u64 0, .slice none 0 0]) (by rfl) (by rw [List.length_append, HGO.out.1, List.length_append, HND.out]; simp only [List.length_cons, List.length_nil]; omega) (owns_news ((hR.ow _ (List.mem_cons_of_mem _ (List.mem_cons_self ..))).own rfl)) (by intro u hu; rcases List.mem_append.1 hu with h | h; (· exact HGO.out.ones u h); (· exact ones11 u h)) (by omega) ?_
                  intro v193 x193 ho193 hg193 hat193
                  replace hR := hR.grow hg193 ho193 hat193
                  obtain ⟨A193, c193, rfl⟩ := owns_slice ho193
                  clear ho193 hg193 hat193
                  refine hK.out _ _ (.inr (⟨hR.bl, (hR.ow _ (List.mem_cons_of_mem _ (List.mem_cons_of_mem _ (List.mem_cons_self ..)))).cells' (c := 3) (by rfl) rfl r _ HZ.out⟩)) ?_
                  clear hK K
                  try simp only [Act.put, List.setIfInBounds_toArray, List.set]
                  refine Rest.one (i := 17) (by kernel_rfl) ?_
                  refine Comes.mk (o := ⟨some 10, _, _, _, _, _⟩) rfl (fun K hK => ?_)
                  go_simp
                  refine hK.out _ _ (.inl rfl) ?_
                  clear hK K
                  refine Rest.done (by kernel_rfl) ?_ _
                  go_wp2
                  go_meet
                  exact ⟨_, _, _, by first | rfl | (congr 1; omega), Lib.hid (wraps_row hR.head HGO.out), Lib.hid (HB40.out.trans (hR.bl.mono HB40.out.size))⟩
              · skip
                refine Comes.mk (o := ⟨some 45, _, _, _, _, _⟩) rfl (fun K hK => ?_)
                refine step_append_row rfl (.tmp 42) (.tmp 44) 34 43 rfl _ 5 56 Try.underlying34 Try.infoInst5 rfl (by decide) (by decide) (.slice A186 (nd + 1) c186) (nd + 1) us (by rfl) hR.head (.slice (some ⟨y154, 0, none⟩) 1 1) 1 [.int .i64 11, .int .i64 0, .int .i64 0, .int .u64 0, .slice none 0 0] (by rfl) (by rfl) (owns_news ((hR.ow _ (List.mem_cons_of_mem _ (List.mem_cons_self ..))).own rfl)) (by simp [Value.oneCell']) (by omega) ?_
                intro v194 x194 ho194 hg194 hat194
                replace hR := hR.grow hg194 ho194 hat194
                obtain ⟨A194, c194, rfl⟩ := owns_slice ho194
                clear ho194 hg194 hat194
                refine hK.out _ _ (.inr (hR.bl)) ?_
                clear hK K
                try simp only [Act.put, List.setIfInBounds_toArray, List.set]
                refine Rest.one (i := 0) (by kernel_rfl) ?_
                refine Comes.mk (o := ⟨some 30, _, _, _, _, _⟩) rfl (fun K hK => ?_)
                go_simp
                replace hR := hR.lit 3 1 3 #[.int .i64 2, .int .i64 3, .int .i64 4] rfl (by decide)
                refine hK.out _ _ (.inr (hR.bl)) ?_
                clear hK K
                try simp only [List.setIfInBounds_toArray, List.set]
                generalize hy195 : x194.heap.size = y195 at hR ⊢
                generalize (x194.alloc (.cells #[.int .i64 2, .int .i64 3, .int .i64 4] 3)) = x195 at hR ⊢
                clear hy195
                refine Rest.strong (S' := fun w' => Bel w4 w' ∧ w'.cell? ⟨y195, r, none⟩ = some (.int .i64 z)) (fun _ h => h.1) _ _ _ _ ?_
                refine Rest.take (i := 5) (oi := ⟨some 35, _, _, _, _, _⟩) (v := ?_) rfl (by kernel_rfl) (by kernel_rfl) (by kernel_rfl) (by kernel_rfl) (fun _ _ _ h => h) (Or.inl ⟨by rfl, ?_⟩) (⟨hR.bl, (hR.ow _ (List.mem_cons_self ..)).cells' (c := 3) (by rfl) rfl r _ HZ.out⟩) ?_
                rotate_left
                · intro w' hSw; obtain ⟨hSb', hSp⟩ := hSw; have hSb : Below _ _ _ := hSb'; go_simp; try with_reducible rfl
                try simp only [Act.put, List.setIfInBounds_toArray, List.set]
                refine Rest.take (i := 6) (oi := ⟨some 36, _, _, _, _, _⟩) (v := ?_) rfl (by kernel_rfl) (by kernel_rfl) (by kernel_rfl) (by kernel_rfl) (fun _ _ _ h => h) (Or.inl ⟨by rfl, ?_⟩) (⟨hR.bl, (hR.ow _ (List.mem_cons_self ..)).cells' (c := 3) (by rfl) rfl r _ HZ.out⟩) ?_
                rotate_left
                · intro w' hSw; obtain ⟨hSb', hSp⟩ := hSw; have hSb : Below _ _ _ := hSb'; go_simp; try with_reducible rfl
                try simp only [Act.put, List.setIfInBounds_toArray, List.set]
                refine Rest.take (i := 7) (oi := ⟨some 37, _, _, _, _, _⟩) (v := ?_) rfl (by kernel_rfl) (by kernel_rfl) (by kernel_rfl) (by kernel_rfl) (fun _ _ _ h => h) (Or.inl ⟨by rfl, ?_⟩) (⟨hR.bl, (hR.ow _ (List.mem_cons_self ..)).cells' (c := 3) (by rfl) rfl r _ HZ.out⟩) ?_
                rotate_left
                · intro w' hSw; obtain ⟨hSb', hSp⟩ := hSw; have hSb : Below _ _ _ := hSb'; go_simp; try with_reducible rfl
                try simp only [Act.put, List.setIfInBounds_toArray, List.set]
                refine Rest.one (i := 8) (by kernel_rfl) ?_
                refine Comes.mk (o := ⟨some 38, _, _, _, _, _⟩) rfl (fun K hK => ?_)
                go_simp
                replace hR := hR.lit 43 5 1 #[.int .i64 z, .int .i64 (-1), .int .i64 0, .int .u64 0, .slice none 0 0] rfl (by decide)
                refine hK.out _ _ (.inr (⟨hR.bl, (hR.ow _ (List.mem_cons_of_mem _ (List.mem_cons_self ..))).cells' (c := 3) (by rfl) rfl r _ HZ.out⟩)) ?_
                clear hK K
                try simp only [List.setIfInBounds_toArray, List.set]
                generalize hy196 : x195.heap.size = y196 at hR ⊢
                generalize (x195.alloc (.cells #[.int .i64 z, .int .i64 (-1), .int .i64 0, .int .u64 0, .slice none 0 0] 43)) = x196 at hR ⊢
                clear hy196
                refine Rest.one (i := 16) (by kernel_rfl) ?_
                refine Comes.mk (o := ⟨some 46, _, _, _, _, _⟩) rfl (fun K hK => ?_)
                refine step_append_row rfl (.tmp 38) (.tmp 45) 34 43 rfl _ 5 56 Try.underlying34 Try.infoInst5 rfl (by decide) (by decide) (.slice (some ⟨y196, 0, none⟩) 1 1) 1 [.int .i64 z, .int .i64 (-1), .int .i64 0, .int .u64 0, .slice none 0 0] (by rfl) hR.head (.slice A194 ((nd + 1) + 1) c194) (nd + 1 + 1) (us ++ [.int .i64 11, .int .i64 0, .int .i64 0, .int .u64 0, .slice none 0 0]) (by rfl) (by rw [List.length_append, HGO.out.1, List.length_append, HND.out]; simp only [List.length_cons, List.length_nil]; omega) (owns_news ((hR.ow _ (List.mem_cons_of_mem _ (List.mem_cons_of_mem _ (List.mem_cons_self ..)))).own rfl)) (by intro u hu; rcases List.mem_append.1 hu with h | h; (· exact HGO.out.ones u h); (· exact ones11 u h)) (by omega) ?_
                intro v197 x197 ho197 hg197 hat197
                replace hR := hR.grow hg197 ho197 hat197
                obtain ⟨A197, c197, rfl⟩ := owns_slice ho197
                clear ho197 hg197 hat197
                refine hK.out _ _ (.inr (⟨hR.bl, (hR.ow _ (List.mem_cons_of_mem _ (List.mem_cons_self ..))).cells' (c := 3) (by rfl) rfl r _ HZ.out⟩)) ?_
                clear hK K
                try simp only [Act.put, List.setIfInBounds_toArray, List.set]
                refine Rest.one (i := 17) (by kernel_rfl) ?_
                refine Comes.mk (o := ⟨some 10, _, _, _, _, _⟩) rfl (fun K hK => ?_)
                go_simp
                refine hK.out _ _ (.inl rfl) ?_
                clear hK K
                refine Rest.done (by kernel_rfl) ?_ _
                go_wp2
                go_meet
                exact ⟨_, _, _, by first | rfl | (congr 1; omega), Lib.hid (wraps_row hR.head HGO.out), Lib.hid (HB40.out.trans (hR.bl.mono HB40.out.size))⟩
      case rest =>
        obtain ⟨A6', n6', cc6, rfl, HW6, HB56⟩ := hcut
        obtain ⟨w6, rfl⟩ : ∃ w6, w6 = wc := ⟨_, rfl⟩
        obtain ⟨hca, hnc, hln⟩ := HW6.out
        have HWQ : Hid (matchP (z :: (d ++ [11]) ++ [11]) = _) := HWR
        have hle6 : n6' ≤ 950000 := by
          have h9 := HND.out
          simp only [List.length_append, List.length_cons, List.length_nil] at hln
          have h8 := hle.2
          omega
        have HOF := Lib.hid (of_any w6 A6' n6' cc6 _ hca hln hle6 hnc)
        have HS6 := Lib.hid (HS5.out.below HB56.out)
        have HD6 := Lib.hid ((HB56.out.cell (p := ⟨D, 2, none⟩) HDL5.out).trans HD5.out)
        have HDL6 : Hid (D < w6.heap.size) := Lib.hid (Nat.lt_of_lt_of_le HDL5.out HB56.out.size)
        have HB6 := Lib.hid (below_then HB5.out HB56.out)
        obtain ⟨N1, hN1⟩ : ∃ N1 : Nat, N1 = nd + 1 := ⟨_, rfl⟩
        rw [← hN1] at HD6
        have HN1 := Lib.hid hN1
        clear hca hnc hln HW6 HB5 HS5 HD5 HDL5 HB56 hle6 hN1 HGO HNW5 HWR e1 e2 e3 e4 e5 hr HZ HZ2
        go_wp2_with fail
        go_at_call 5
        refine HOF.out.mono ?_
        rintro e w7 ⟨v7, rfl, hs7, hb7⟩
        rw [HWQ.out] at hs7 ⊢
        simp only at hs7 ⊢
        obtain ⟨B7, cb7, rfl, _, _⟩ := id hs7
        obtain ⟨L1, hL1⟩ : ∃ L1 : Nat, (((0 : Int), -1, (nd : Int) + 1) :: out'.map shiftS).length = L1 := ⟨_, rfl⟩
        have hLL : L1 = L + 1 := by have := HL.out; simp only [List.length_cons, List.length_map] at hL1; omega
        rw [hL1] at hs7 ⊢
        obtain ⟨-, gb, rfl, hgb, hsb⟩ := hs7.cells 0 (by omega)
        have b0 : w7.cell? ⟨gb, 0, none⟩ = some (.int .i64 0) := by have h := (hsb 0 (by omega)).1; simpa [spAt] using h
        have b1 : w7.cell? ⟨gb, 1, none⟩ = some (.int .i64 (-1)) := by have h := (hsb 0 (by omega)).2.1; simpa [spAt] using h
        have b2 : w7.cell? ⟨gb, 2, none⟩ = some (.int .i64 (N1 : Int)) := by
          have h := (hsb 0 (by omega)).2.2
          rw [HN1.out]
          simpa [spAt] using h
        have d7 := (hb7.cell (p := ⟨D, 2, none⟩) HDL6.out).trans HD6.out
        have HSB : Hid (∀ a, a < L → w7.cell? ⟨gb, (a + 1) * 3, none⟩ = some (.int .i64 (shiftS (spAt out' a)).1) ∧ w7.cell? ⟨gb, (a + 1) * 3 + 1, none⟩ = some (.int .i64 (shiftS (spAt out' a)).2.1) ∧ w7.cell? ⟨gb, (a + 1) * 3 + 2, none⟩ = some (.int .i64 (shiftS (spAt out' a)).2.2)) := Lib.hid fun a ha => by
          have h := hsb (a + 1) (by omega)
          rw [show spAt (((0 : Int), -1, (nd : Int) + 1) :: out'.map shiftS) (a + 1) = shiftS (spAt out' a) from (show spAt (out'.map shiftS) a = _ from spAt_map _ _ (by rw [HL.out]; exact ha))] at h
          exact h
        have HS7 := Lib.hid (HS6.out.below hb7)
        have HB7 := Lib.hid (below_then HB6.out hb7)
        have t1 : IntKind.i64.wrap ((L : Int) + 1) = (L1 : Int) := by rw [show (L : Int) + 1 = (L1 : Int) by omega]; exact IntWalk.i64_in _ (by omega)
        have t2 : (0 : Int) < (L1 : Int) := by omega
        have HLL := Lib.hid hLL
        clear hs7 hb7 hsb hgb HS6 HD6 HDL6 HB6 HWQ HL hL1 hLL HOF
        go_upto_region 8 with (fail)
        go_cut [89] from 52 to 89 (fun c wx => c = .bool false ∧ Hid (Below w7.heap.size w7 wx))
        case first =>
          as_aux_lemma =>
            try simp only [List.append_eq, List.cons_append, List.nil_append]
            go_big_quiet (fail)
            go_wp2
            go_meet
            exact ⟨rfl, Lib.hid (below_drewN (Below.refl _ _) nq)⟩
        case rest =>
          obtain ⟨rfl, HB78⟩ := hcut
          obtain ⟨w8, rfl⟩ : ∃ w8, w8 = wc := ⟨_, rfl⟩
          clear b0 b1 b2 d7 t1 t2
          go_wp2_with fail
          go_loopw [92] (fun i wr => ∃ a : Nat, a ≤ L ∧ i = .int .i64 (a : Int) ∧ Hid (Below w8.heap.size w8 wr)) (fun i _ => L - (intOf i).toNat)
          case atStart => exact ⟨0, Nat.zero_le _, rfl, Lib.hid (Below.refl _ _)⟩
          case round =>
            obtain ⟨a, ha, rfl, HBA⟩ := hrel
            obtain ⟨w9, rfl⟩ : ∃ w9, w9 = wr := ⟨_, rfl⟩
            have HB79 := Lib.hid (below_then HB78.out HBA.out)
            by_cases hla : a < L
            · have hd1 : decide ((a : Int) < (L : Int)) = true := by simp; omega
              obtain ⟨-, gs, rfl, hgs, hsc⟩ := (HS7.out.below HB79.out).cells a hla
              obtain ⟨s0, s1, s2⟩ := hsc a hla
              obtain ⟨p0, p1, p2⟩ := HSB.out a hla
              replace p0 := (HB79.out.cell (p := ⟨gb, (a + 1) * 3, none⟩) (World.block_lt_of_cell? _ _ p0)).trans p0
              replace p1 := (HB79.out.cell (p := ⟨gb, (a + 1) * 3 + 1, none⟩) (World.block_lt_of_cell? _ _ p1)).trans p1
              replace p2 := (HB79.out.cell (p := ⟨gb, (a + 1) * 3 + 2, none⟩) (World.block_lt_of_cell? _ _ p2)).trans p2
              obtain ⟨⟨x1, x2, x3, x4⟩, x5, x6⟩ := HX.out a hla
              clear x4 x6 hsc
              generalize spAt out' a = s at s0 s1 s2 x1 x2 x3 x5 p0 p1 p2
              obtain ⟨sa, se, sz⟩ := s
              simp only [shiftS] at s0 s1 s2 x1 x2 x3 x5 p0 p1 p2
              have x5' : se = -1 ∨ (sa < se ∧ se < sz) := x5.imp id fun h => ⟨h.1, h.2.1⟩
              clear x5
              obtain ⟨a1, ha1⟩ : ∃ a1 : Nat, a1 = a + 1 := ⟨_, rfl⟩
              rw [← ha1] at p0 p1 p2
              have t3 : IntKind.i64.wrap ((a : Int) + 1) = (a1 : Int) := by rw [show (a : Int) + 1 = (a1 : Int) by omega]; exact IntWalk.i64_in _ (by omega)
              have t4 : (a1 : Int) < (L1 : Int) := by have := HLL.out; omega
              have t5 : (0 : Int) ≤ (a1 : Int) := by omega
              have t6 : IntKind.i64.wrap (sa + 1) = sa + 1 := IntWalk.i64_in _ (by omega)
              have t7 : IntKind.i64.wrap (sz + 1) = sz + 1 := IntWalk.i64_in _ (by omega)
              have HA1 := Lib.hid ha1
              have HLE := Lib.hid hle
              have HOL := Lib.hid hol
              have HL5 := Lib.hid hl5
              clear ha1 hle hol hl5
              rcases x5' with x5 | ⟨x5, x7⟩
              case' inl =>
                subst x5
                rw [if_pos rfl] at p1
              case' inr =>
                rw [if_neg (by omega)] at p1
                have y1 : decide ((0 : Int) ≤ se) = true := by simp; omega
                have y2 : decide (se < (0 : Int)) = false := by simp; omega
                have y3 : IntKind.i64.wrap (se + 1) = se + 1 := IntWalk.i64_in _ (by have := HLE.out; omega)
              all_goals
                clear x1 x2 x3
                try clear x5 x7
                as_aux_lemma =>
                  go_upto_region 14 with (fail)
                  try simp only [List.append_eq, List.cons_append, List.nil_append]
                  go_big_quiet (fail)
                  go_wp2
                  go_roundw
                  case rel => exact ⟨a1, by have := HA1.out; omega, by go_num, Lib.hid (below_drewN (below_new HBA.out _) nq)⟩
                  case measure => have := HA1.out; simp [intOf]; omega
            · have hd1 : decide ((a : Int) < (L : Int)) = false := by simp; omega
              have HB9 := Lib.hid (below_then HB7.out HB79.out)
              go_wp2_with fail
              go_roundw
              case rel => exact ⟨j + 1, by omega, by go_num, HB9⟩
              case measure => simp [intOf]; omega
    · have hd0 : decide ((j : Int) < (nf : Int)) = false := by simp; omega
      have HBW := Lib.hid (below_then HB1.out HB.out)
      go_wp2_with fail
      go_at_call 6
      refine (known_any _).mono ?_
      rintro e w9 ⟨rfl, hb9⟩
      go_wp2
      go_ret
      exact ⟨rfl, below_then HBW.out hb9⟩
end Go.Proofs.Ytdfonjnplmfhfaa
