/- A part of the proof. -/
import Derived.Test.YteohmkceapblkaaDoorJ12
namespace Go.Proofs.YteohmkceapblkaaDoor
open Go.RowKit
theorem wpAnyH_turn {P : Program} {ops : Array Oper} {Q : Exit → Act → World → Prop} {md : Region.Mode} {S S' : World → Prop} (himp : ∀ w, S' w → S w) :
    ∀ {fuel : Nat} {listed : Array Bool} {a : Act} {w : World}, wpAnyH P md ops Q S' fuel listed a w → wpAnyH P md ops Q S fuel listed a w
  | 0, _, _, _, h => h
  | _ + 1, _, _, _, h => ⟨h.1, fun i hi => wpOp_mono (fun _ _ h' => ⟨himp _ h'.1, wpAnyH_turn himp h'.2⟩) (h.2 i hi)⟩
theorem flatF_take (l : List Fv) (n : Nat) : flatF (l.take n) = (flatF l).take (n * 5) := by
  induction l generalizing n with
  | nil => simp [flatF]
  | cons a l ih =>
    cases n with
    | zero => simp [flatF]
    | succ n =>
      show a.cells ++ flatF (l.take n) = (a.cells ++ flatF l).take _
      have hl : a.cells.length = 5 := rfl
      rw [ih, List.take_append, List.take_of_length_le (l := a.cells) (by omega), show (n + 1) * 5 - a.cells.length = n * 5 by omega]
theorem heap_new (w : World) (o : Obj) : (w.alloc o).heap[w.heap.size]? = some o := by
  unfold World.alloc
  exact Array.getElem?_push_size
theorem alloc_size (w : World) (o : Obj) : (w.alloc o).heap.size = w.heap.size + 1 := by simp
theorem Wk.outside {F : Wx} {w0 w w' : World} {x0 x : Ws} (h : Wk F w x) (h0 : Wk F w0 x0) (hst : WStep F w0 x0 w x) (hfr : ∀ a ∈ x.f, a ∈ x0.f) {R : Nat} (hk : Keeps (fun b => b ≠ R) w w') (hR : w0.heap.size ≤ R) (hp : ¬ wpriv F x R) : Wk F w' x ∧ WStep F w0 x0 w' x := by
  have hK : Keeps (wfree F w0 x0) w0 w' := hst.keeps.trans (hk.mono fun k hk e => by have := hk.1; omega)
  have hM : ∀ k, wfree F w0 x0 k → wfree F w' x k := fun k hk' => ⟨Nat.lt_of_lt_of_le (hst.mono k hk').1 hk.size, (hst.mono k hk').2⟩
  refine ⟨⟨(hk.block F.G fun e => hp (.inl e.symm)).trans h.hg, owns_keep h.so hk fun g hg e => hp (.inr (.inl (e ▸ hg))), h.sp, owns_keep h.fo hk fun g hg e => hp (.inr (.inr (e ▸ hg))), h.fp, ?_⟩, hK, hM⟩
  have hr := h0.reads.keep hK hM
  exact ⟨hr.mod, hr.loc, hr.own, fun a ha => hr.fr a (hfr a ha)⟩
theorem keeps5 (w : World) (R : Nat) (a b c d e : Value) : Keeps (fun k => k ≠ R) w (((((w.setCell ⟨R, 0, none⟩ a).setCell ⟨R, 1, none⟩ b).setCell ⟨R, 2, none⟩ c).setCell ⟨R, 3, none⟩ d).setCell ⟨R, 4, none⟩ e) :=
  ((((Keeps.setCell w (fun h => h rfl) a).trans (.setCell _ (fun h => h rfl) b)).trans (.setCell _ (fun h => h rfl) c)).trans (.setCell _ (fun h => h rfl) d)).trans (.setCell _ (fun h => h rfl) e)
theorem fill5_at {w : World} {P : Nat} {z0 z1 z2 z3 z4 : Value} {T : TypeId} (h : w.heap[P]? = some (.cells #[z0, z1, z2, z3, z4] T (0, 0))) (a b c d e : Value) : (((((w.setCell ⟨P, 0, none⟩ a).setCell ⟨P, 1, none⟩ b).setCell ⟨P, 2, none⟩ c).setCell ⟨P, 3, none⟩ d).setCell ⟨P, 4, none⟩ e).heap[P]? = some (.cells #[a, b, c, d, e] T (0, 0)) := by
  have h0 := heap_setCell_at w P 0 _ T a h
  have h1 := heap_setCell_at _ P 1 _ T b h0
  have h2 := heap_setCell_at _ P 2 _ T c h1
  have h3 := heap_setCell_at _ P 3 _ T d h2
  exact heap_setCell_at _ P 4 _ T e h3
theorem fz_of {w : World} {B : Nat} {cs : Array Value} {T : TypeId} (h : w.heap[B]? = some (.cells cs T (0, 0))) (j : Nat) : w.frozen? ⟨B, j, none⟩ = false := by simp [World.frozen?, h]
theorem cl_of {w : World} {B : Nat} {cs : Array Value} {T : TypeId} (h : w.heap[B]? = some (.cells cs T (0, 0))) (j : Nat) : w.cell? ⟨B, j, none⟩ = cs[j]? := by simp [World.cell?, h]
def Ws.mayEnd (x : Ws) : Bool := holdC x.top.h x.top.dead x.s x.top.rs && decide ((x.s.take (max (x.s.length - x.top.rs.length) x.top.h)).length ≤ x.top.h)
def FinPost (F : Wx) (w : World) (x : Ws) (e : Ending) (w' : World) : Prop :=
  ∃ x', Wk F w' x' ∧ WStep F w x w' x' ∧ e = .returned (if x.mayEnd then .tuple #[.agg x.top.cells.toArray, .bool true] else .tuple #[.agg #[.int .i64 0, .slice none 0 0, .slice none 0 0, .int .i64 0, .bool false], .bool false]) ∧
    (x.mayEnd = true → x'.f = x.f.take (x.f.length - 1) ∧ x'.s = x.s.take (max (x.s.length - x.top.rs.length) x.top.h))
set_option maxRecDepth 100000 in
set_option maxHeartbeats 8000000 in
theorem finish_any {F : Wx} {w : World} {x : Ws} (hF : F.prg) (h : Wk F w x) (h0 : 0 < x.f.length) (hs : x.s.length ≤ 1000000) (hrl : x.top.rs.length ≤ 1000000) (hh : x.top.h ≤ x.s.length) :
    Calls Tryd.prog 75 #[.pointer (some ⟨F.G, 0, none⟩)] w (FinPost F w x) := by
  have hg1 := h.alloc (.cells #[.int .i64 0, .slice none 0 0, .slice none 0 0, .int .i64 0, .bool false] 92)
  obtain ⟨W, hW⟩ : ∃ W, W = w.alloc (.cells #[.int .i64 0, .slice none 0 0, .slice none 0 0, .int .i64 0, .bool false] 92) := ⟨_, rfl⟩
  rw [← hW] at hg1
  obtain ⟨g, A, c, cf, hc, hsv, hfv⟩ := hg1.1.cel hF h0
  obtain ⟨g', cf', he, _, _, _, _, t0, t1, t2, t3, t4⟩ := hg1.1.tcell h0
  rw [hfv] at he
  simp only [Value.slice.injEq, Option.some.injEq, Addr.mk.injEq] at he
  obtain ⟨⟨rfl, -⟩, -, rfl⟩ := he
  have hmem : x.top ∈ x.f := by
    unfold Ws.top
    rw [List.getD_eq_getElem?_getD, List.getElem?_eq_getElem (by omega)]
    exact List.getElem_mem _
  have hrv := (hg1.1.reads.fr _ hmem).2
  have hpv := (hg1.1.reads.fr _ hmem).1
  obtain ⟨Ar, cr, er, _⟩ := hrv.form
  obtain ⟨Ap, cp, ep, _⟩ := hpv.form
  rw [er] at t2
  rw [ep] at t1
  have HC := Lib.hid hc
  have HSV := Lib.hid hsv
  have HFV := Lib.hid hfv
  have HG1 := Lib.hid hg1
  have HG0 := Lib.hid h
  have HW := Lib.hid hW
  have HF := Lib.hid hF
  have HRV := Lib.hid hrv
  have HER := Lib.hid er
  have HEP := Lib.hid ep
  have HNP := Lib.hid (h.new_free (Nat.le_refl _))
  have HWS : Hid (W.heap.size = w.heap.size + 1) := Lib.hid (by rw [hW]; exact alloc_size _ _)
  have HZB : Hid (W.heap[w.heap.size]? = some (.cells #[.int .i64 0, .slice none 0 0, .slice none 0 0, .int .i64 0, .bool false] 92 (0, 0))) := Lib.hid (by rw [hW]; exact heap_new _ _)
  have HH := Lib.hid (⟨h0, hh, hs⟩ : 0 < x.f.length ∧ x.top.h ≤ x.s.length ∧ x.s.length ≤ 1000000)
  clear hc hsv hfv hg1 hW hrv hpv er ep h hF hmem h0 hh hs
  go_enter Tryd.func75, Tryd.ntmps75
  go_upto_region 2 with (first | (go_at_call 44; rw [← HW.out]; refine (top_at _ F.G g x.f.length cf HC.out.p1 HC.out.k0 HC.out.k1 HC.out.k2).mono ?_; rintro e w2 ⟨rfl, m2, hw2⟩; have HB2 := Lib.hid (show Below W.heap.size W w2 from hw2 ▸ below_drewN (Below.refl _ _) m2); clear hw2; have u0 := (HB2.out.cell (World.block_lt_of_cell? W _ t0)).trans t0; have u1 := (HB2.out.cell (World.block_lt_of_cell? W _ t1)).trans t1; have u2 := (HB2.out.cell (World.block_lt_of_cell? W _ t2)).trans t2; have u3 := (HB2.out.cell (World.block_lt_of_cell? W _ t3)).trans t3; have u4 := (HB2.out.cell (World.block_lt_of_cell? W _ t4)).trans t4; clear t0 t1 t2 t3 t4))
  obtain ⟨W3, hW3⟩ : ∃ W3, W3 = w2.alloc (.cells #[.int .i64 x.top.op, .slice Ap x.top.ps.length cp, .slice Ar x.top.rs.length cr, .int .i64 (x.top.h : Int), .bool x.top.dead] 92) := ⟨_, rfl⟩
  rw [← hW3]
  have hb3 : Below W.heap.size W W3 := hW3 ▸ HB2.out.alloc HB2.out.size _
  have hws3 : W3.heap.size = w2.heap.size + 1 := by rw [hW3, alloc_size]
  have hg3 := HG1.out.1.below hb3
  have hf3 : ∀ j : Nat, W3.cell? ⟨w2.heap.size, j, none⟩ = (#[.int .i64 x.top.op, .slice Ap x.top.ps.length cp, .slice Ar x.top.rs.length cr, .int .i64 (x.top.h : Int), .bool x.top.dead] : Array Value)[j]? := fun j => by rw [hW3, World.cell?_alloc_new]
  have hnf := HG1.out.1.new_free HB2.out.size
  have h2s := HB2.out.size
  have HFF : Hid (∀ wz xz, WStep F W3 x wz xz → (∀ j : Nat, wz.cell? ⟨w2.heap.size, j, none⟩ = (#[.int .i64 x.top.op, .slice Ap x.top.ps.length cp, .slice Ar x.top.rs.length cr, .int .i64 (x.top.h : Int), .bool x.top.dead] : Array Value)[j]?) ∧ wz.heap[w.heap.size]? = some (.cells #[.int .i64 0, .slice none 0 0, .slice none 0 0, .int .i64 0, .bool false] 92 (0, 0)) ∧ ¬ wpriv F xz w.heap.size) := Lib.hid fun wz xz hst => by
    have hfw : w.heap.size < W.heap.size := by rw [HWS.out]; omega
    have hk1 := hst.keeps.block w2.heap.size ⟨by omega, hnf⟩
    have hfr : wfree F W3 x w.heap.size := ⟨by have := hb3.size; omega, HNP.out⟩
    exact ⟨fun j => (World.cell?_of_block (w := W3) (a := ⟨w2.heap.size, j, none⟩) hk1).trans (hf3 j), ((hst.keeps.block w.heap.size hfr).trans (hb3.block w.heap.size hfw)).trans HZB.out, (hst.mono _ hfr).2⟩
  have b2 := hf3 2
  simp only [List.getElem?_toArray, List.getElem?_cons_zero, List.getElem?_cons_succ] at b2
  have HTK := Lib.hid (take_any HF.out (hg3.1.below ((Below.refl _ _).drew)).1 HH.out.1 HH.out.2.2 _ x.top.rs ((hg3.1.below ((Below.refl _ _).drew)).2.ints (hg3.2.ints HRV.out)) hrl HH.out.2.1)
  rw [HER.out] at HTK
  have HG3 := Lib.hid hg3
  generalize w2.heap.size = f at *
  have HTP : Hid (FinPost F w x = fun e w' => ∃ x', Wk F w' x' ∧ WStep F w x w' x' ∧ e = .returned (if x.mayEnd then .tuple #[.agg #[.int .i64 x.top.op, .slice Ap x.top.ps.length cp, .slice Ar x.top.rs.length cr, .int .i64 (x.top.h : Int), .bool x.top.dead], .bool true] else .tuple #[.agg #[.int .i64 0, .slice none 0 0, .slice none 0 0, .int .i64 0, .bool false], .bool false]) ∧
    (x.mayEnd = true → x'.f = x.f.take (x.f.length - 1) ∧ x'.s = x.s.take (max (x.s.length - x.top.rs.length) x.top.h))) := Lib.hid (by unfold FinPost Fv.cells; rw [HER.out, HEP.out])
  rw [HTP.out]
  clear hg3 hf3 hnf h2s hb3 hW3 u0 u1 u2 u3 u4 HTP HC
  cases hR : holdC x.top.h x.top.dead x.s x.top.rs with
  | false =>
    have hme : x.mayEnd = false := by unfold Ws.mayEnd; rw [hR]; rfl
    rw [hR] at HTK
    have HME := Lib.hid hme
    clear hR hme
    refine wp_region_held_drew (S := fun _ => True) (by kernel_rfl) trivial (fun hS => ?_)
    show wpAnyH _ _ _ _ _ 16 #[false, false, false, false, false, false, false, false, false, false, false, false, false, false, false, false] _ _
    refine mT 0 9 rfl hS ?_
    refine mT 1 10 rfl hS ?_
    refine mT 2 11 rfl hS ?_
    refine mR 3 12 rfl fun K hK => ?_
    go_simp
    refine hK.out _ _ trivial (fun _ => ?_)
    clear hK K
    try simp only [List.setIfInBounds_toArray, List.set]
    refine mR 4 13 rfl fun K hK => ?_
    go_simp
    go_at_call 60
    refine HTK.out.mono ?_
    rintro e w4 ⟨rfl, x4, g4, s4, hxf, hxs⟩
    go_wp2_with fail
    refine hK.out _ _ trivial (fun _ => ?_)
    clear hK K
    try simp only [List.setIfInBounds_toArray, List.set]
    refine wpAnyH_turn (S' := fun wz => Below w4.heap.size w4 wz) (fun _ _ => trivial) ?_
    replace hS : Below w4.heap.size w4 w4 := Below.refl _ _
    refine mT 5 14 rfl hS ?_
    refine mT 6 15 rfl hS ?_
    refine mN 7 16 rfl hS ?_
    refine mN 8 17 rfl hS ?_
    refine mN 9 18 rfl hS ?_
    refine mN 10 19 rfl hS ?_
    refine mN 11 20 rfl hS ?_
    refine mN 12 21 rfl hS ?_
    refine mN 13 22 rfl hS ?_
    refine mN 14 23 rfl hS ?_
    refine mT 15 24 rfl hS ?_
    refine wpAnyH_done (by kernel_rfl) ?_ _
    have hst4 := (HG3.out.1.below ((Below.refl W3.heap.size W3).drew)).2.trans s4
    obtain ⟨_, hz, hnp⟩ := HFF.out w4 x4 hst4
    have hfin := g4.outside HG0.out ((HG1.out.2.trans HG3.out.2).trans hst4) (fun a ha => hxf ▸ ha) (keeps5 w4 w.heap.size (.int .i64 0) (.slice none 0 0) (.slice none 0 0) (.int .i64 0) (.bool false)) (Nat.le_refl _) hnp
    have HFN := Lib.hid hfin
    have HZE := Lib.hid (fill5_at hz (.int .i64 0) (.slice none 0 0) (.slice none 0 0) (.int .i64 0) (.bool false))
    have z0 := cl_of hz 0
    have f0 := fz_of hz 0
    have z1 := cl_of hz 1
    have f1 := fz_of hz 1
    have z2 := cl_of hz 2
    have f2 := fz_of hz 2
    have z3 := cl_of hz 3
    have f3 := fz_of hz 3
    have z4 := cl_of hz 4
    have f4 := fz_of hz 4
    simp only [List.getElem?_toArray, List.getElem?_cons_zero, List.getElem?_cons_succ] at z0 z1 z2 z3 z4
    clear hz hnp hfin hst4 g4 s4 hxf hxs
    go_wp2
    have hzz := cl_of HZE.out
    refine bodyPost_ret (v := .tuple #[.agg #[.int .i64 0, .slice none 0 0, .slice none 0 0, .int .i64 0, .bool false], .bool false]) (by simp [results, Tryd.results75, go_sem, hzz]) rfl ⟨x4, HFN.out.1, HFN.out.2, by rw [HME.out]; rfl, fun hx => by rw [HME.out] at hx; cases hx⟩
  | true =>
    rw [hR] at HTK
    by_cases hle : (x.s.take (max (x.s.length - x.top.rs.length) x.top.h)).length ≤ x.top.h
    · have hme : x.mayEnd = true := by unfold Ws.mayEnd; rw [hR, decide_eq_true hle]; rfl
      have HME := Lib.hid hme
      clear hR hme
      refine wp_region_held_drew (S := fun _ => True) (by kernel_rfl) trivial (fun hS => ?_)
      show wpAnyH _ _ _ _ _ 16 #[false, false, false, false, false, false, false, false, false, false, false, false, false, false, false, false] _ _
      refine mT 0 9 rfl hS ?_
      refine mT 1 10 rfl hS ?_
      refine mT 2 11 rfl hS ?_
      refine mR 3 12 rfl fun K hK => ?_
      go_simp
      refine hK.out _ _ trivial (fun _ => ?_)
      clear hK K
      try simp only [List.setIfInBounds_toArray, List.set]
      refine mR 4 13 rfl fun K hK => ?_
      go_simp
      go_at_call 60
      refine HTK.out.mono ?_
      rintro e w4 ⟨rfl, x4, g4, s4, hxf, hxs⟩
      go_wp2_with fail
      refine hK.out _ _ trivial (fun _ => ?_)
      clear hK K
      try simp only [List.setIfInBounds_toArray, List.set]
      refine wpAnyH_turn (S' := fun wz => Below w4.heap.size w4 wz) (fun _ _ => trivial) ?_
      replace hS : Below w4.heap.size w4 w4 := Below.refl _ _
      have hst4 := (HG3.out.1.below ((Below.refl W3.heap.size W3).drew)).2.trans s4
      obtain ⟨hff, hz, hnp⟩ := HFF.out w4 x4 hst4
      have b3 := hff 3
      simp only [List.getElem?_toArray, List.getElem?_cons_zero, List.getElem?_cons_succ] at b3
      have hs4 := hxs trivial
      obtain ⟨gg, A4, c4, cf4, hc4, hsv4, hfv4⟩ := g4.cel HF.out (by rw [hxf]; exact HH.out.1)
      have HC4 := Lib.hid hc4
      have HSV4 := Lib.hid hsv4
      have HFV4 := Lib.hid hfv4
      have HB3 := Lib.hid (fun wz (hb : Below w4.heap.size w4 wz) => (hb.cell (World.block_lt_of_cell? w4 _ b3)).trans b3)
      have hdl : decide (x.top.h < x4.s.length) = false := by rw [hs4]; exact decide_eq_false (by omega)
      have HXS := Lib.hid hs4
      have HXF := Lib.hid hxf
      clear hff hc4 hsv4 hfv4 b3 hs4 hxf hxs
      refine mT 5 14 rfl hS ?_
      refine mT 6 15 rfl hS ?_
      refine mT 7 16 rfl hS ?_
      refine mT 8 17 rfl hS ?_
      refine mT 9 18 rfl hS ?_
      refine mT 10 19 rfl hS ?_ (hy := by intro wS hSw; have p0 := (HC4.out.below hSw).p0; go_simp; try with_reducible rfl)
      refine mT 11 20 rfl hS ?_
      refine mT 12 21 rfl hS ?_
      refine mT 13 22 rfl hS ?_ (hy := by intro wS hSw; have b3 := HB3.out _ hSw; go_simp; try with_reducible rfl)
      refine mT 14 23 rfl hS ?_
      refine mT 15 24 rfl hS ?_
      refine wpAnyH_done (by kernel_rfl) ?_ _
      have HK := Lib.hid (show x4.f.length = x.f.length by rw [HXF.out])
      have hk1 : 0 < x.f.length := HH.out.1
      have HG4 := Lib.hid g4
      have HST4 := Lib.hid hst4
      clear hz hnp hst4 g4 s4
      have hkc : x.f.length ≤ cf4 ∧ cf4 ≤ maxLen := ⟨by rw [← HK.out]; exact HC4.out.k1, HC4.out.k2⟩
      unfold maxLen at hkc
      have e1 : IntKind.i64.wrap ((x4.f.length : Int) - 1) = ((x.f.length - 1 : Nat) : Int) := by rw [HK.out, show ((x.f.length : Int) - 1) = ((x.f.length - 1 : Nat) : Int) by omega]; exact IntWalk.i64_in _ (by omega)
      have hkd : x.f.length - 1 ≤ cf4 := by omega
      go_upto_region 4 with (fail)
      refine Rest.start (S := fun wz => Below w4.heap.size w4 wz) (X := 14) (by kernel_rfl) ?_
      show Rest _ _ _ _ _ _ 15 #[false, false, false, false, false, false, false, false, false, false, false, false, false, false, false] _ _
      replace hS : Below w4.heap.size w4 w4.drew := (Below.refl _ _).drew
      generalize w4.drew = w5 at hS ⊢
      refine Rest.tk 0 26 rfl hS ?_
      refine Rest.tk 1 27 rfl hS ?_
      refine Rest.tk 2 28 rfl hS ?_
      refine Rest.tk 3 29 rfl hS ?_
      refine Rest.tk 4 30 rfl hS ?_ (hy := by intro w' hSw; have p1 := (HC4.out.below hSw).p1; go_simp; try with_reducible rfl)
      refine Rest.tk 5 31 rfl hS ?_
      refine Rest.tk 6 32 rfl hS ?_
      refine Rest.tk 7 33 rfl hS ?_
      refine Rest.tk 8 34 rfl hS ?_ (hy := by intro w' hSw; have p1 := (HC4.out.below hSw).p1; go_simp; try with_reducible rfl)
      refine Rest.tk 9 35 rfl hS ?_
      refine Rest.tk 10 36 rfl hS ?_
      refine Rest.tk 11 37 rfl hS ?_
      refine Rest.om 12 38 rfl fun K hK => ?_
      go_simp
      refine hK.out _ _ (.inr hS) ?_
      clear hK K
      try simp only [List.setIfInBounds_toArray, List.set]
      refine Rest.tk 13 39 rfl hS ?_
      refine Rest.on 14 rfl fun K hK => ?_
      have hg5 := HG4.out.below hS
      have p1 := hg5.1.p1 HF.out
      have fx := hg5.1.frozen 1
      rw [HFV4.out] at p1
      go_simp
      refine hK.out _ _ (.inl rfl) ?_
      clear hK K
      refine Rest.done (by kernel_rfl) ?_ _
      have how : w5.ownsRow 0 F.ft 5 (.slice (some ⟨gg, 0, none⟩) (x.f.length - 1) cf4) (x4.f.take (x.f.length - 1)).length (flatF (x4.f.take (x.f.length - 1))) := by
        have ho := hg5.1.fo
        rw [HFV4.out] at ho
        have h2 := owns_cut ho (m := x.f.length - 1) (by rw [HK.out]; omega)
        rw [List.length_take, HK.out, Nat.min_eq_left (by omega), flatF_take]
        exact h2
      have hst := hg5.1.setF (W := w5) (w := w5) (.refl _ _) (.slice (some ⟨gg, 0, none⟩) (x.f.length - 1) cf4) (x4.f.take (x.f.length - 1)) how (.inl (by rw [HFV4.out]; rfl)) (fun a ha => .inl (List.mem_of_mem_take ha))
      rw [show F.pfv = 1 by unfold Wx.pfv; rw [HF.out.1]; rfl] at hst
      have hst6 := HST4.out.trans (hg5.2.trans hst.2)
      obtain ⟨hff, hz, hnp⟩ := HFF.out _ _ hst6
      have c0 := hff 0
      have c1 := hff 1
      have c2 := hff 2
      have c3 := hff 3
      have c4 := hff 4
      simp only [List.getElem?_toArray, List.getElem?_cons_zero, List.getElem?_cons_succ] at c0 c1 c2 c3 c4
      have hfin := hst.1.outside HG0.out ((HG1.out.2.trans HG3.out.2).trans hst6) (fun a ha => HXF.out ▸ List.mem_of_mem_take ha) (keeps5 _ w.heap.size (.int .i64 x.top.op) (.slice Ap x.top.ps.length cp) (.slice Ar x.top.rs.length cr) (.int .i64 (x.top.h : Int)) (.bool x.top.dead)) (Nat.le_refl _) hnp
      have HFN := Lib.hid hfin
      have HZE := Lib.hid (fill5_at hz (.int .i64 x.top.op) (.slice Ap x.top.ps.length cp) (.slice Ar x.top.rs.length cr) (.int .i64 (x.top.h : Int)) (.bool x.top.dead))
      have z0 := cl_of hz 0
      have f0 := fz_of hz 0
      have z1 := cl_of hz 1
      have f1 := fz_of hz 1
      have z2 := cl_of hz 2
      have f2 := fz_of hz 2
      have z3 := cl_of hz 3
      have f3 := fz_of hz 3
      have z4 := cl_of hz 4
      have f4 := fz_of hz 4
      simp only [List.getElem?_toArray, List.getElem?_cons_zero, List.getElem?_cons_succ] at z0 z1 z2 z3 z4
      clear hz hnp hfin hst6 hst hg5 p1 fx how hff hS
      generalize w5.setCell ⟨F.G, 1, none⟩ (.slice (some ⟨gg, 0, none⟩) (x.f.length - 1) cf4) = w6 at *
      go_wp2
      have hzz := cl_of HZE.out
      refine bodyPost_ret (v := .tuple #[.agg #[.int .i64 x.top.op, .slice Ap x.top.ps.length cp, .slice Ar x.top.rs.length cr, .int .i64 (x.top.h : Int), .bool x.top.dead], .bool true]) (by simp [results, Tryd.results75, go_sem, hzz]) rfl ?_
      refine ⟨_, HFN.out.1, HFN.out.2, ?_, ?_⟩
      · rw [HME.out, if_pos rfl]; unfold Fv.cells; rw [HER.out, HEP.out]
      · exact fun _ => ⟨by show x4.f.take _ = _; rw [HXF.out], HXS.out⟩
    · have hme : x.mayEnd = false := by unfold Ws.mayEnd; rw [hR, decide_eq_false hle]; rfl
      have HME := Lib.hid hme
      clear hR hme
      refine wp_region_held_drew (S := fun _ => True) (by kernel_rfl) trivial (fun hS => ?_)
      show wpAnyH _ _ _ _ _ 16 #[false, false, false, false, false, false, false, false, false, false, false, false, false, false, false, false] _ _
      refine mT 0 9 rfl hS ?_
      refine mT 1 10 rfl hS ?_
      refine mT 2 11 rfl hS ?_
      refine mR 3 12 rfl fun K hK => ?_
      go_simp
      refine hK.out _ _ trivial (fun _ => ?_)
      clear hK K
      try simp only [List.setIfInBounds_toArray, List.set]
      refine mR 4 13 rfl fun K hK => ?_
      go_simp
      go_at_call 60
      refine HTK.out.mono ?_
      rintro e w4 ⟨rfl, x4, g4, s4, hxf, hxs⟩
      go_wp2_with fail
      refine hK.out _ _ trivial (fun _ => ?_)
      clear hK K
      try simp only [List.setIfInBounds_toArray, List.set]
      refine wpAnyH_turn (S' := fun wz => Below w4.heap.size w4 wz) (fun _ _ => trivial) ?_
      replace hS : Below w4.heap.size w4 w4 := Below.refl _ _
      have hst4 := (HG3.out.1.below ((Below.refl W3.heap.size W3).drew)).2.trans s4
      obtain ⟨hff, hz, hnp⟩ := HFF.out w4 x4 hst4
      have b3 := hff 3
      simp only [List.getElem?_toArray, List.getElem?_cons_zero, List.getElem?_cons_succ] at b3
      have hs4 := hxs trivial
      obtain ⟨gg, A4, c4, cf4, hc4, hsv4, hfv4⟩ := g4.cel HF.out (by rw [hxf]; exact HH.out.1)
      have HC4 := Lib.hid hc4
      have HSV4 := Lib.hid hsv4
      have HFV4 := Lib.hid hfv4
      have HB3 := Lib.hid (fun wz (hb : Below w4.heap.size w4 wz) => (hb.cell (World.block_lt_of_cell? w4 _ b3)).trans b3)
      have hdl : decide (x.top.h < x4.s.length) = true := by rw [hs4]; exact decide_eq_true (by omega)
      have HXS := Lib.hid hs4
      have HXF := Lib.hid hxf
      clear hff hc4 hsv4 hfv4 b3 hs4 hxf hxs
      refine mT 5 14 rfl hS ?_
      refine mT 6 15 rfl hS ?_
      refine mT 7 16 rfl hS ?_
      refine mT 8 17 rfl hS ?_
      refine mT 9 18 rfl hS ?_
      refine mT 10 19 rfl hS ?_ (hy := by intro wS hSw; have p0 := (HC4.out.below hSw).p0; go_simp; try with_reducible rfl)
      refine mT 11 20 rfl hS ?_
      refine mT 12 21 rfl hS ?_
      refine mT 13 22 rfl hS ?_ (hy := by intro wS hSw; have b3 := HB3.out _ hSw; go_simp; try with_reducible rfl)
      refine mT 14 23 rfl hS ?_
      refine mT 15 24 rfl hS ?_
      refine wpAnyH_done (by kernel_rfl) ?_ _
      have hfin := g4.outside HG0.out ((HG1.out.2.trans HG3.out.2).trans hst4) (fun a ha => HXF.out ▸ ha) (keeps5 w4 w.heap.size (.int .i64 0) (.slice none 0 0) (.slice none 0 0) (.int .i64 0) (.bool false)) (Nat.le_refl _) hnp
      have HFN := Lib.hid hfin
      have HZE := Lib.hid (fill5_at hz (.int .i64 0) (.slice none 0 0) (.slice none 0 0) (.int .i64 0) (.bool false))
      have z0 := cl_of hz 0
      have f0 := fz_of hz 0
      have z1 := cl_of hz 1
      have f1 := fz_of hz 1
      have z2 := cl_of hz 2
      have f2 := fz_of hz 2
      have z3 := cl_of hz 3
      have f3 := fz_of hz 3
      have z4 := cl_of hz 4
      have f4 := fz_of hz 4
      simp only [List.getElem?_toArray, List.getElem?_cons_zero, List.getElem?_cons_succ] at z0 z1 z2 z3 z4
      clear hz hnp hfin hst4 g4 s4
      go_wp2
      have hzz := cl_of HZE.out
      refine bodyPost_ret (v := .tuple #[.agg #[.int .i64 0, .slice none 0 0, .slice none 0 0, .int .i64 0, .bool false], .bool false]) (by simp [results, Tryd.results75, go_sem, hzz]) rfl ⟨x4, HFN.out.1, HFN.out.2, by rw [HME.out]; rfl, fun hx => by rw [HME.out] at hx; cases hx⟩
end Go.Proofs.YteohmkceapblkaaDoor
