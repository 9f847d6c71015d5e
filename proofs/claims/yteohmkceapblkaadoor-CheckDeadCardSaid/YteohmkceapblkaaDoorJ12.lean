/- A part of the proof. -/
import Derived.Test.YteohmkceapblkaaDoorJ11
namespace Go.Proofs.YteohmkceapblkaaDoor
section
open Go.RowKit
theorem Wk.grown {F : Wx} {w w2 : World} {x : Ws} (hF : F.prg) (h : Wk F w x) (hgr : w.grownBy w2 x.sv.ownBlock) : w2.cell? ⟨F.G, 0, none⟩ = some x.sv ∧ w2.frozen? ⟨F.G, 0, none⟩ = false := by
  have hb : w2.heap[F.G]? = w.heap[F.G]? := hgr.block F.G h.lts.1 (fun e => (h.sp _ e.symm).1 rfl)
  exact ⟨(World.cell?_of_block (w := w) (a := ⟨F.G, 0, none⟩) hb).trans (h.p0 hF), (World.frozen?_of_block (w := w) (a := ⟨F.G, 0, none⟩) hb).trans (h.frozen 0)⟩
set_option maxRecDepth 100000 in
set_option maxHeartbeats 1000000 in
theorem give_any {F : Wx} {w : World} {x : Ws} (hF : F.prg) (h : Wk F w x) (tv : Value) (q : List Int) (hq : IntsK (wfree F w x) w tv q) (hb : x.s.length + q.length ≤ 1000000) :
    Calls Tryd.prog 43 #[.pointer (some ⟨F.G, 0, none⟩), tv] w (WPost F w x (.tuple #[]) (fun x' => x'.f = x.f ∧ x'.s = x.s ++ q)) := by
  have p0 := h.p0 hF
  have HW := Lib.hid h
  have HF := Lib.hid hF
  have HNW := Lib.hid hq.news
  have HSO := Lib.hid h.so
  have HQL : Hid ((q.map (Value.int .i64)).length = q.length * 1) := Lib.hid (by rw [List.length_map, Nat.mul_one])
  have HON := Lib.hid (ones_int q)
  have HE : Hid (∀ w2, w.grownBy w2 x.sv.ownBlock → w2.cell? ⟨F.G, 0, none⟩ = some x.sv ∧ w2.frozen? ⟨F.G, 0, none⟩ = false) := Lib.hid fun w2 hgr => h.grown hF hgr
  obtain ⟨A, c, hsv, h1, h2⟩ := h.sform
  have HSV := Lib.hid hsv
  clear hq h hF hsv
  go_enter Tryd.func43, Tryd.ntmps43
  go_wp2_with (at_builtin; refine wpList_append_row rfl (.tmp 8) (.tmp 9) 22 3 rfl _ 1 8 Tryd.underlying22 Tryd.infoInt rfl (by decide) (by decide) x.sv x.s.length (x.s.map (Value.int .i64)) (by rfl) HSO.out _ q.length (q.map (Value.int .i64)) (by rfl) HQL.out HNW.out HON.out (by omega) ?_; intro v' w1 hown hgr hat; obtain ⟨e0, f0⟩ := HE.out w1 hgr; obtain ⟨A2, c2, rfl⟩ := owns_slice hown)
  have hk : Keeps (fun k => k < w.heap.size ∧ x.sv.ownBlock ≠ some k) w w1 := .grown hgr (fun k hk => hk.1) (fun k e hk => hk.2 e)
  have hst := HW.out.setS hk (.slice A2 (x.s.length + q.length) c2) (x.s ++ q) (by rw [List.length_append, List.map_append]; exact hown) (by
    rcases hat with h1 | h1
    · exact .inl h1
    · exact .inr fun g e => by have := h1.symm.trans e; simp only [Option.some.injEq] at this; omega)
  rw [show F.psv = 0 by unfold Wx.psv; rw [HF.out.1]; rfl] at hst
  refine bodyPost_end (results_none rfl _ _ _) rfl ⟨rfl, _, hst.1, hst.2, rfl, rfl⟩
set_option maxRecDepth 100000 in
set_option maxHeartbeats 1000000 in
theorem pop_any {F : Wx} {w : World} {x : Ws} (hF : F.prg) (h : Wk F w x) (h0 : 0 < x.f.length) (hs : x.s.length ≤ 1000000) :
    Calls Tryd.prog 58 #[.pointer (some ⟨F.G, 0, none⟩)] w (WPost F w x (if x.s.length ≤ x.top.h then .tuple #[.int .i64 0, .bool x.top.dead] else .tuple #[.int .i64 (x.s.getD (x.s.length - 1) 0), .bool true]) (fun x' => x'.f = x.f ∧ x'.s = if x.s.length ≤ x.top.h then x.s else x.s.take (x.s.length - 1))) := by
  obtain ⟨g, A, c, cf, hc, hsv, hfv⟩ := h.cel hF h0
  have HSC := Lib.hid (fun h0 => h.scell h0)
  have HW := Lib.hid h
  have HC := Lib.hid hc
  have HF := Lib.hid hF
  have HOWN := Lib.hid (fun d hd => owns_cutS (d := d) h hsv rfl hd)
  have HSV := Lib.hid hsv
  have p0 := hc.p0
  have p1 := hc.p1
  have HT := Lib.hid (fun j => top_at (w.drewN j) F.G g x.f.length cf hc.p1 hc.k0 hc.k1 hc.k2)
  clear hsv hfv h hF hc
  obtain ⟨n, hn⟩ : ∃ n, x.s.length = n := ⟨_, rfl⟩
  obtain ⟨k, hk⟩ : ∃ k, x.f.length = k := ⟨_, rfl⟩
  obtain ⟨ht, hht⟩ : ∃ ht, x.top.h = ht := ⟨_, rfl⟩
  obtain ⟨dd, hdd⟩ : ∃ dd, x.top.dead = dd := ⟨_, rfl⟩
  have HN := Lib.hid hn
  rw [hn] at HC HSV HOWN hs HSC p0 ⊢
  rw [hk] at HC h0 HT p1
  rw [hht] at HC ⊢
  rw [hdd] at HC ⊢
  clear hn hk hht hdd
  have e1 : IntKind.i64.wrap ((n : Int) - 1) = (n : Int) - 1 := IntWalk.i64_in _ (by omega)
  obtain ⟨_, _, _, _, _, n1, n2, ch, cd⟩ := HC.out
  by_cases hle : n ≤ ht
  · have hd : decide ((n : Int) - 1 < (ht : Int)) = true := by simp; omega
    rw [if_pos hle, if_pos hle]
    go_enter Tryd.func58, Tryd.ntmps58
    go_wp2_with fail
    go_quiet (first | (go_at_call 44; exact Calls.quiet_of (HT.out _)))
    go_wp2
    go_quiet (fail)
    go_wp2
    go_ret2
    exact ⟨rfl, x, (HW.out.below (below_drewN (below_drewN (Below.refl _ _) _) _)).1, (HW.out.below (below_drewN (below_drewN (Below.refl _ _) _) _)).2, rfl, rfl⟩
  · rw [if_neg hle, if_neg hle]
    obtain ⟨z, hz⟩ : ∃ z : Nat, n - 1 = z := ⟨_, rfl⟩
    rw [hz]
    have e2 : IntKind.i64.wrap ((n : Int) - 1) = (z : Int) := by rw [e1]; omega
    have hd : decide (z < ht) = false := by simp; omega
    obtain ⟨gs, cs, he, _, _, _, hcs⟩ := HSC.out (by omega)
    rw [HSV.out] at he
    simp only [Value.slice.injEq] at he
    obtain ⟨rfl, -, rfl⟩ := he
    have k3 := hcs z (by omega)
    have hzn : z < n := by omega
    have hzc : z ≤ c := by omega
    have HZ := Lib.hid hz
    have HZN : Hid (z ≤ n) := Lib.hid (by omega)
    have f0 := HW.out.frozen 0
    generalize x.s.getD z 0 = t at k3 ⊢
    clear hcs e1 hz
    go_enter Tryd.func58, Tryd.ntmps58
    go_wp2_with fail
    go_quiet (first | (go_at_call 44; exact Calls.quiet_of (HT.out _)))
    go_wp2
    go_ret2
    have hS := below_drewN (Below.refl w.heap.size w) nq
    have hg := HW.out.below hS
    have hst := hg.1.setS (W := w.drewN nq) (w := w.drewN nq) (.refl _ _) (.slice (some ⟨gs, 0, none⟩) z c) (x.s.take z) (owns_below (HOWN.out z HZN.out) hS) (.inl (by rw [HSV.out]; rfl))
    rw [show F.psv = 0 by unfold Wx.psv; rw [HF.out.1]; rfl] at hst
    exact ⟨rfl, _, hst.1, hg.2.trans hst.2, rfl, rfl⟩
end
section
open Go.RowKit
theorem flatF_dead (l : List Fv) (j : Nat) (b : Bool) (f0 : Fv) (hj : j < l.length) : flatF (l.set j { l.getD j f0 with dead := b }) = (flatF l).set (j * 5 + 4) (.bool b) := by
  induction l generalizing j with
  | nil => simp at hj
  | cons a l ih =>
    cases j with
    | zero => simp [flatF, Fv.cells]
    | succ j =>
      have hj' : j < l.length := by simpa using hj
      simp only [List.set_cons_succ, List.getD_cons_succ]
      show a.cells ++ flatF (l.set j _) = (a.cells ++ flatF l).set _ _
      rw [ih j hj', List.set_append_right _ _ (by simp [Fv.cells]; omega)]
      rw [show (j + 1) * 5 + 4 - a.cells.length = j * 5 + 4 by simp [Fv.cells]; omega]
def Ws.deadF (x : Ws) : List Fv := x.f.set (x.f.length - 1) { x.top with dead := true }
theorem Wk.setDead {F : Wx} {w : World} {x : Ws} (h : Wk F w x) (h0 : 0 < x.f.length) {g n c : Nat} (hv : x.fv = .slice (some ⟨g, 0, none⟩) n c) :
    Wk F (w.setCell ⟨g, (x.f.length - 1) * 5 + 4, none⟩ (.bool true)) { x with f := x.deadF } ∧ WStep F w x (w.setCell ⟨g, (x.f.length - 1) * 5 + 4, none⟩ (.bool true)) { x with f := x.deadF } := by
  refine h.setC hv _ _ x.deadF (flatF_dead x.f (x.f.length - 1) true _ (by omega)) (by simp [Ws.deadF]) fun a ha => ?_
  rcases List.mem_or_eq_of_mem_set ha with h1 | h1
  · exact ⟨a, h1, rfl, rfl, rfl, rfl⟩
  · refine ⟨x.top, ?_, by rw [h1], by rw [h1], by rw [h1], by rw [h1]⟩
    unfold Ws.top
    rw [List.getD_eq_getElem?_getD, List.getElem?_eq_getElem (by omega)]
    exact List.getElem_mem _
theorem Ws.top_dead {x : Ws} (h0 : 0 < x.f.length) (v : Value) (s : List Int) : (Ws.top { x with sv := v, s := s, f := x.deadF }) = { x.top with dead := true } := by
  show List.getD x.deadF (x.deadF.length - 1) _ = _
  unfold Ws.deadF
  rw [List.length_set, List.getD_eq_getElem?_getD, List.getElem?_set_self (by omega)]
  rfl
theorem Ws.deadF_length (x : Ws) : x.deadF.length = x.f.length := by simp [Ws.deadF]
set_option maxRecDepth 100000 in
set_option maxHeartbeats 1000000 in
theorem leave_any {F : Wx} {w : World} {x : Ws} (hF : F.prg) (h : Wk F w x) (h0 : 0 < x.f.length) (hs : x.s.length ≤ 1000000) (tv : Value) (q : List Int) (hq : IntsK (wfree F w x) w tv q) (hql : q.length ≤ 1000000) (hh : x.top.h ≤ x.s.length) :
    Calls Tryd.prog 54 #[.pointer (some ⟨F.G, 0, none⟩), tv] w (WPost F w x (.bool (holdC x.top.h x.top.dead x.s q)) (fun x' => holdC x.top.h x.top.dead x.s q = true → x'.s = x.s.take x.top.h ∧ x'.f = x.deadF)) := by
  have HTK := Lib.hid (take_any hF h h0 hs tv q hq hql hh)
  have HF := Lib.hid hF
  obtain ⟨At, ct, htv, _⟩ := hq.form
  rw [htv] at HTK ⊢
  clear hq htv
  cases hR : holdC x.top.h x.top.dead x.s q with
  | false =>
    rw [hR] at HTK
    clear h
    go_enter Tryd.func54, Tryd.ntmps54
    go_wp2_with (go_at_call 60; refine HTK.out.mono ?_; rintro e w1 ⟨rfl, x1, g1, s1, r1⟩; have HG1 := Lib.hid g1; have HS1 := Lib.hid s1; clear g1 s1 r1)
    go_ret
    exact ⟨rfl, x1, HG1.out, HS1.out, fun hx => by cases hx⟩
  | true =>
    rw [hR] at HTK
    clear h hR
    have HX0 := Lib.hid (⟨h0, hh⟩ : 0 < x.f.length ∧ x.top.h ≤ x.s.length)
    clear h0 hh
    go_enter Tryd.func54, Tryd.ntmps54
    go_upto_region 4 with (first | (go_at_call 60; refine HTK.out.mono ?_; rintro e w1 ⟨rfl, x1, g1, s1, hxf, hxs⟩; have HG1 := Lib.hid g1; have HS1 := Lib.hid s1; have HXF := Lib.hid hxf; have HXS := Lib.hid (hxs rfl); obtain ⟨g, A, c, cf, hc, hsv, hfv⟩ := HG1.out.cel HF.out (by rw [hxf]; exact HX0.out.1); have HC := Lib.hid hc; have HSV := Lib.hid hsv; have HFV := Lib.hid hfv; clear g1 s1 hxf hxs hc hsv hfv) | (go_at_call 44; refine (top_at _ F.G g x1.f.length cf HC.out.p1 HC.out.k0 HC.out.k1 HC.out.k2).mono ?_; rintro e w2 ⟨rfl, m2, rfl⟩))
    have hk1 : 0 < x1.f.length := by rw [HXF.out]; exact HX0.out.1
    have hg2 := HG1.out.below (below_drewN (Below.refl w1.heap.size w1) m2)
    have cd := (HC.out.drewN m2).cd
    obtain ⟨g', c', he, _, _, _, hfz, _⟩ := hg2.1.fcell hk1
    rw [HFV.out] at he
    simp only [Value.slice.injEq, Option.some.injEq, Addr.mk.injEq] at he
    obtain ⟨⟨rfl, -⟩, -, rfl⟩ := he
    have f4 := hfz ((x1.f.length - 1) * 5 + 4)
    have hst := hg2.1.setDead hk1 HFV.out
    have HST := Lib.hid hst
    have HG2 := Lib.hid hg2
    obtain ⟨w3, hw3⟩ : ∃ w3, w3 = (w1.drewN m2).setCell ⟨g, (x1.f.length - 1) * 5 + 4, none⟩ (.bool true) := ⟨_, rfl⟩
    have HW3 := Lib.hid hw3
    clear hst hg2 hfz hw3
    go_upto_region 5 with (fail)
    rw [← HW3.out] at HST ⊢
    obtain ⟨g2, A2, c2, cf2, hc2, hsv2, hfv2⟩ := HST.out.1.cel HF.out (by rw [Ws.deadF_length]; exact hk1)
    have hfv2' : x1.fv = _ := hfv2
    have hsv2' : x1.sv = _ := hsv2
    rw [HFV.out] at hfv2'
    rw [HSV.out] at hsv2'
    simp only [Value.slice.injEq, Option.some.injEq, Addr.mk.injEq, Ws.deadF_length] at hfv2' hsv2'
    obtain ⟨⟨rfl, -⟩, -, rfl⟩ := hfv2'
    obtain ⟨rfl, -, rfl⟩ := hsv2'
    rw [Ws.top_dead hk1] at hc2
    have hc2' : Cel w3 F.G g x1.f.length A x1.s.length c cf x1.top.h true := by rw [Ws.deadF_length] at hc2; exact hc2
    have HC3 := Lib.hid hc2'
    have htop : x1.top = x.top := by unfold Ws.top; rw [HXF.out]
    have hls : x.top.h ≤ x1.s.length := by rw [HXS.out, List.length_take]; have := HX0.out.2; omega
    have HOWN := Lib.hid (owns_cutS (d := x.top.h) HST.out.1 HSV.out rfl hls)
    rw [htop] at HC3
    have hdc : x.top.h ≤ c := by have := HC.out.n1; omega
    clear hc2 hc2' hfv2 hsv2 HC htop f4 cd
    generalize hht : x.top.h = ht at *
    have HHT := Lib.hid hht
    clear hht
    refine Rest.start (S := fun wz => Below w3.heap.size w3 wz) (X := 12) (by kernel_rfl) ?_
    show Rest _ _ _ _ _ _ 13 #[false, false, false, false, false, false, false, false, false, false, false, false, false] _ _
    have hS := (Below.refl w3.heap.size w3).drew
    generalize w3.drew = w4 at hS ⊢
    refine Rest.tk 0 15 rfl hS ?_
    refine Rest.tk 1 16 rfl hS ?_
    refine Rest.tk 2 17 rfl hS ?_
    refine Rest.tk 3 18 rfl hS ?_
    refine Rest.tk 4 19 rfl hS ?_ (hy := by intro w' hSw; have p0 := (HC3.out.below hSw).p0; go_simp; try with_reducible rfl)
    refine Rest.tk 5 20 rfl hS ?_
    refine Rest.tk 6 21 rfl hS ?_
    refine Rest.tk 7 22 rfl hS ?_
    refine Rest.tk 8 23 rfl hS ?_ (hy := by intro w' hSw; have ch := (HC3.out.below hSw).ch; go_simp; try with_reducible rfl)
    refine Rest.tk 9 24 rfl hS ?_
    refine Rest.om 10 25 rfl fun K hK => ?_
    go_simp
    refine hK.out _ _ (.inr hS) ?_
    clear hK K
    try simp only [List.setIfInBounds_toArray, List.set]
    refine Rest.tk 11 26 rfl hS ?_
    refine Rest.on 12 rfl fun K hK => ?_
    have hg := HST.out.1.below hS
    have p0 := hg.1.p0 HF.out
    have f0 := hg.1.frozen 0
    rw [show (({ x1 with f := x1.deadF } : Ws).sv) = .slice A x1.s.length c from HSV.out] at p0
    go_simp
    refine hK.out _ _ (.inl rfl) ?_
    clear hK K
    refine Rest.done (by kernel_rfl) ?_ _
    have hst := hg.1.setS (W := w4) (w := w4) (.refl _ _) (.slice A ht c) (x1.s.take ht) (owns_below HOWN.out hS) (.inl (by show _ = x1.sv.ownBlock; rw [HSV.out]; cases A <;> rfl))
    rw [show F.psv = 0 by unfold Wx.psv; rw [HF.out.1]; rfl] at hst
    have HST2 := Lib.hid hst
    have HSX := Lib.hid (((HS1.out.trans HG2.out.2).trans HST.out.2).trans (hg.2.trans hst.2))
    clear hst hg p0 f0 hS
    go_wp2
    go_ret
    refine ⟨rfl, _, HST2.out.1, HSX.out, ?_, ?_⟩
    · show List.take ht x1.s = _
      rw [HXS.out, List.take_take, Nat.min_eq_left (by omega), HHT.out]
    · show x1.deadF = x.deadF
      unfold Ws.deadF Ws.top
      rw [HXF.out]
end
section
open Go.RowKit
theorem Tryd.infoFrame : (Tryd.prog.info? 92).map (fun i => (i.zero, i.size, i.bytes)) = some (some (.agg #[.int .i64 0, .slice none 0 0, .slice none 0 0, .int .i64 0, .bool false]), 5, 72) := by kernel_rfl
set_option maxRecDepth 100000 in
set_option maxHeartbeats 1000000 in
theorem begin_any {F : Wx} {w : World} {x : Ws} (hF : F.prg) (h : Wk F w x) (op : Int) (pv rv : Value) (ps rs : List Int) (hp : IntsK (wfree F w x) w pv ps) (hr : IntsK (wfree F w x) w rv rs) (hb : x.s.length + ps.length ≤ 1000000) (hf : x.f.length + 1 ≤ 1000000) :
    Calls Tryd.prog 24 #[.pointer (some ⟨F.G, 0, none⟩), .int .i64 op, .agg #[pv, rv]] w (WPost F w x (.tuple #[]) (fun x' => x'.f = x.f ++ [⟨op, pv, rv, ps, rs, x.s.length, false⟩] ∧ x'.s = x.s ++ ps)) := by
  obtain ⟨Ap, cp, rfl, _⟩ := hp.form
  obtain ⟨Ar, cr, rfl, _⟩ := hr.form
  have hg1 := h.alloc (.cells #[.slice Ap ps.length cp, .slice Ar rs.length cr] 26)
  obtain ⟨W, hW⟩ : ∃ W, W = w.alloc (.cells #[.slice Ap ps.length cp, .slice Ar rs.length cr] 26) := ⟨_, rfl⟩
  have hB : ∀ j : Nat, W.cell? ⟨w.heap.size, j, none⟩ = #[.slice Ap ps.length cp, .slice Ar rs.length cr][j]? := fun j => by rw [hW, World.cell?_alloc_new]
  rw [← hW] at hg1
  have b0 := hB 0
  have b1 := hB 1
  simp only [List.getElem?_toArray, List.getElem?_cons_zero, List.getElem?_cons_succ] at b0 b1
  have HPW := Lib.hid (hg1.2.ints hp)
  have HRW := Lib.hid (hg1.2.ints hr)
  have a0 := hg1.1.p0 hF
  have a1 := hg1.1.p1 hF
  obtain ⟨A, c, hsv, s1, s2⟩ := hg1.1.sform
  obtain ⟨Af, cf, hfv⟩ := owns_slice hg1.1.fo
  rw [hsv] at a0
  rw [hfv] at a1
  have HLG := Lib.hid hg1.1.lts.1
  have HNG : Hid (x.fv.ownBlock ≠ some F.G) := Lib.hid fun e => hg1.1.fp _ e rfl
  have HLB : Hid (w.heap.size < W.heap.size) := Lib.hid (World.block_lt_of_cell? W _ b0)
  have HNB : Hid (x.fv.ownBlock ≠ some w.heap.size) := Lib.hid fun e => by have := (h.fo.lt _ e).2; omega
  have HE : Hid (∀ w', Keeps (fun k => k < W.heap.size ∧ x.fv.ownBlock ≠ some k) W w' → w'.cell? ⟨F.G, 0, none⟩ = some (.slice A x.s.length c) ∧ w'.cell? ⟨F.G, 1, none⟩ = some (.slice Af x.f.length cf) ∧ w'.cell? ⟨w.heap.size, 0, none⟩ = some (.slice Ap ps.length cp) ∧ w'.cell? ⟨w.heap.size, 1, none⟩ = some (.slice Ar rs.length cr)) :=
    Lib.hid fun w' hk => ⟨(hk.cell (p := ⟨F.G, 0, none⟩) ⟨HLG.out, HNG.out⟩).trans a0, (hk.cell (p := ⟨F.G, 1, none⟩) ⟨HLG.out, HNG.out⟩).trans a1, (hk.cell (p := ⟨w.heap.size, 0, none⟩) ⟨HLB.out, HNB.out⟩).trans b0, (hk.cell (p := ⟨w.heap.size, 1, none⟩) ⟨HLB.out, HNB.out⟩).trans b1⟩
  have HZ : Hid (∀ w', Keeps (fun k => k < W.heap.size ∧ x.fv.ownBlock ≠ some k) W w' → w'.frozen? ⟨F.G, 1, none⟩ = false) :=
    Lib.hid fun w' hk => (World.frozen?_of_block (w := W) (a := ⟨F.G, 1, none⟩) (hk.block F.G ⟨HLG.out, HNG.out⟩)).trans (hg1.1.frozen 1)
  have HG1 := Lib.hid hg1
  have HW := Lib.hid hW
  have HF := Lib.hid hF
  have HFV := Lib.hid hfv
  have HNP := Lib.hid (h.new_free (Nat.le_refl _))
  have HB0 := Lib.hid b0
  have HLS := Lib.hid hg1.1.lts
  have HLB2 := Lib.hid HLB.out
  clear hg1 hB b0 b1 a0 a1 hsv hfv hp hr h hF hW HLG HLB HNB
  obtain ⟨n, hn⟩ : ∃ n, x.s.length = n := ⟨_, rfl⟩
  obtain ⟨k, hk⟩ : ∃ k, x.f.length = k := ⟨_, rfl⟩
  have HN := Lib.hid hn
  have HK := Lib.hid hk
  rw [hn] at HE hb s1 ⊢
  rw [hk] at HE HFV hf
  clear hn hk
  go_enter Tryd.func24, Tryd.ntmps24
  go_wp2_with fail
  rw [← HW.out]
  refine Rest.start (S := fun wz => Keeps (fun k => k < W.heap.size ∧ x.fv.ownBlock ≠ some k) W wz) (X := 17) (by kernel_rfl) ?_
  show Rest _ _ _ _ _ _ 18 #[false, false, false, false, false, false, false, false, false, false, false, false, false, false, false, false, false, false] _ _
  have hS : Keeps (fun k => k < W.heap.size ∧ x.fv.ownBlock ≠ some k) W W.drew := .below ((Below.refl _ _).drew) fun _ h => h.1
  have hSB : Below W.heap.size W W.drew := (Below.refl _ _).drew
  generalize W.drew = w1 at hS hSB ⊢
  refine Rest.tk 0 6 rfl hS ?_
  refine Rest.tk 1 7 rfl hS ?_
  refine Rest.tk 2 8 rfl hS ?_
  refine Rest.tk 3 9 rfl hS ?_
  refine Rest.tk 4 10 rfl hS ?_ (hy := by intro w' hSw; obtain ⟨a0, a1, b0, b1⟩ := HE.out w' hSw; go_simp; try with_reducible rfl)
  refine Rest.tk 5 11 rfl hS ?_
  refine Rest.tk 6 12 rfl hS ?_ (hy := by intro w' hSw; obtain ⟨a0, a1, b0, b1⟩ := HE.out w' hSw; go_simp; try with_reducible rfl)
  refine Rest.tk 7 13 rfl hS ?_
  refine Rest.tk 8 14 rfl hS ?_
  refine Rest.tk 9 15 rfl hS ?_
  refine Rest.tk 10 16 rfl hS ?_ (hy := by intro w' hSw; obtain ⟨a0, a1, b0, b1⟩ := HE.out w' hSw; go_simp; try with_reducible rfl)
  refine Rest.tk 11 17 rfl hS ?_
  refine Rest.tk 12 18 rfl hS ?_
  refine Rest.om 13 19 rfl fun K hK => ?_
  go_simp
  have hS2 : Keeps (fun k => k < W.heap.size ∧ x.fv.ownBlock ≠ some k) W (w1.alloc (.cells #[.int .i64 op, .slice Ap ps.length cp, .slice Ar rs.length cr, .int .i64 (n : Int), .bool false] 92)) := hS.trans (.below ((Below.refl _ _).alloc (Nat.le_refl _) _) fun k hk => Nat.lt_of_lt_of_le hk.1 hSB.size)
  have hSB2 : Below W.heap.size W (w1.alloc (.cells #[.int .i64 op, .slice Ap ps.length cp, .slice Ar rs.length cr, .int .i64 (n : Int), .bool false] 92)) := hSB.alloc hSB.size _
  have hnews := news_new w1 #[.int .i64 op, .slice Ap ps.length cp, .slice Ar rs.length cr, .int .i64 (n : Int), .bool false] 92 1 1
  refine hK.out _ _ (.inr hS2) ?_
  clear hK K hS
  try simp only [List.setIfInBounds_toArray, List.set]
  have how := (HG1.out.1.below hSB2).1.fo
  rw [HF.out.2.2, HFV.out, HK.out] at how
  have hws : W.heap.size ≤ (w1.alloc (.cells #[.int .i64 op, .slice Ap ps.length cp, .slice Ar rs.length cr, .int .i64 (n : Int), .bool false] 92)).heap.size := hSB2.size
  generalize w1.alloc (.cells #[.int .i64 op, .slice Ap ps.length cp, .slice Ar rs.length cr, .int .i64 (n : Int), .bool false] 92) = w2 at hS2 hSB2 hnews how hws ⊢
  have hone : ∀ u ∈ ([.int .i64 op, .slice Ap ps.length cp, .slice Ar rs.length cr, .int .i64 (n : Int), .bool false] : List Value), u.oneCell' = true := by
    intro u hu; simp only [List.mem_cons, List.not_mem_nil, or_false] at hu; rcases hu with rfl | rfl | rfl | rfl | rfl <;> rfl
  refine Rest.om 14 20 rfl fun K hK => ?_
  refine step_append_row rfl (.tmp 10) (.tmp 19) 61 92 rfl _ 5 72 Tryd.underlying61 Tryd.infoFrame rfl (by decide) (by decide) (.slice Af k cf) k (flatF x.f) (by rfl) how _ 1 [.int .i64 op, .slice Ap ps.length cp, .slice Ar rs.length cr, .int .i64 (n : Int), .bool false] (by rfl) (by rfl) hnews hone (by omega) ?_
  intro v' w3 hown hgr hat
  obtain ⟨A3, c3, rfl⟩ := owns_slice hown
  have hS3 : Keeps (fun k => k < W.heap.size ∧ x.fv.ownBlock ≠ some k) W w3 := hS2.trans (.grown hgr (fun k hk => Nat.lt_of_lt_of_le hk.1 hws) (fun j e hk => hk.2 (by rw [HFV.out]; exact e)))
  refine hK.out _ _ (.inr hS3) ?_
  clear hK K hS2
  try simp only [Act.put, List.setIfInBounds_toArray, List.set]
  refine Rest.om 15 21 rfl fun K hK => ?_
  go_simp
  refine hK.out _ _ (.inr hS3) ?_
  clear hK K
  try simp only [List.setIfInBounds_toArray, List.set]
  refine Rest.tk 16 22 rfl hS3 ?_
  refine Rest.on 17 rfl fun K hK => ?_
  obtain ⟨a0, a1, b0, b1⟩ := HE.out w3 hS3
  have f1 := HZ.out w3 hS3
  go_simp
  refine hK.out _ _ (.inl rfl) ?_
  clear hK K
  refine Rest.done (by kernel_rfl) ?_ _
  have hst := HG1.out.1.setF hS3 (.slice A3 (k + 1) c3) (x.f ++ [⟨op, .slice Ap ps.length cp, .slice Ar rs.length cr, ps, rs, n, false⟩]) (by
    rw [HF.out.2.2, List.length_append, flatF_snoc, HK.out]; exact hown) (by
    rcases hat with h1 | h1
    · exact .inl (h1.trans (by rw [HFV.out]))
    · exact .inr fun g e => by have := h1.symm.trans e; simp only [Option.some.injEq] at this; omega) (fun a ha => by
    rcases List.mem_append.1 ha with h1 | h1
    · exact .inl h1
    · obtain rfl := List.mem_singleton.1 h1
      exact .inr ⟨HPW.out, HRW.out⟩)
  rw [show F.pfv = 1 by unfold Wx.pfv; rw [HF.out.1]; rfl] at hst
  have HST := Lib.hid hst
  have c0 := (hst.2.keeps.cell (p := ⟨w.heap.size, 0, none⟩) ⟨HLB2.out, HNP.out⟩).trans HB0.out
  clear a0 a1 b0 b1 f1 hst hS3
  generalize w3.setCell ⟨F.G, 1, none⟩ (.slice A3 (k + 1) c3) = w4 at HST c0 ⊢
  have HGV := Lib.hid (give_any HF.out HST.out.1 _ ps (HST.out.2.ints HPW.out) (by show x.s.length + _ ≤ _; rw [HN.out]; exact hb))
  go_wp2_with (go_at_call 43; refine HGV.out.mono ?_; rintro e w5 ⟨rfl, x5, g5, s5, r5⟩; have HG5 := Lib.hid g5; have HS5 := Lib.hid s5; have HR5 := Lib.hid r5; clear g5 s5 r5)
  refine bodyPost_end (results_none rfl _ _ _) rfl ⟨rfl, x5, HG5.out, (HG1.out.2.trans HST.out.2).trans HS5.out, HR5.out.1, HR5.out.2⟩
end
end Go.Proofs.YteohmkceapblkaaDoor
