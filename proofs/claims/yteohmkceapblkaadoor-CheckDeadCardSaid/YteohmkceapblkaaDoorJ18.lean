/- A part of the proof. -/
import Derived.Test.YteohmkceapblkaaDoorJ17
namespace Go.Proofs.YteohmkceapblkaaDoor
section
open Go.RowKit
def Ws.mayShut (x : Ws) : Bool := x.mayEnd && !(decide (x.top.op = 4) && !decide (x.top.ps = x.top.rs))
def Ws.cut (x : Ws) : List Int := x.s.take (max (x.s.length - x.top.rs.length) x.top.h)
set_option maxRecDepth 100000 in
set_option maxHeartbeats 4000000 in
theorem close_any {F : Wx} {w : World} {x : Ws} (hF : F.prg) (h : Wk F w x) (h0 : 0 < x.f.length) (hs : x.s.length ≤ 900000) (hrl : x.top.rs.length ≤ 100000) (hh : x.top.h ≤ x.s.length) :
    Calls Tryd.prog 53 #[.pointer (some ⟨F.G, 0, none⟩)] w (WPost F w x (.bool x.mayShut) (fun x' => x.mayShut = true → x'.f = x.f.take (x.f.length - 1) ∧ x'.s = x.cut ++ x.top.rs)) := by
  have HFI := Lib.hid (finish_any hF h h0 (by omega) (by omega) hh)
  have hmem : x.top ∈ x.f := by
    unfold Ws.top
    rw [List.getD_eq_getElem?_getD, List.getElem?_eq_getElem (by omega)]
    exact List.getElem_mem _
  have hrv := (h.reads.fr _ hmem).2
  have hpv := (h.reads.fr _ hmem).1
  obtain ⟨Ar, cr, er, _⟩ := hrv.form
  obtain ⟨Ap, cp, ep, _⟩ := hpv.form
  have HRV := Lib.hid hrv
  have HPV := Lib.hid hpv
  have HER := Lib.hid er
  have HEP := Lib.hid ep
  have HF := Lib.hid hF
  have HLC : Hid (x.cut.length + x.top.rs.length ≤ 1000000) := Lib.hid (by unfold Ws.cut; rw [List.length_take]; omega)
  clear hrv hpv er ep h hF hmem
  cases hme : x.mayEnd with
  | false =>
    have hms : x.mayShut = false := by unfold Ws.mayShut; rw [hme]; rfl
    have HF2 : Hid (Calls Tryd.prog 75 #[.pointer (some ⟨F.G, 0, none⟩)] w fun e w' => ∃ x', Wk F w' x' ∧ WStep F w x w' x' ∧ e = .returned (.tuple #[.agg #[.int .i64 0, .slice none 0 0, .slice none 0 0, .int .i64 0, .bool false], .bool false])) := Lib.hid (HFI.out.mono fun e w' hp => by
      obtain ⟨x', g1, s1, e1, _⟩ := hp
      rw [hme] at e1
      exact ⟨x', g1, s1, e1⟩)
    rw [hms]
    clear HFI hme hms
    go_enter Tryd.func53, Tryd.ntmps53
    go_wp2_with (go_at_call 75; refine HF2.out.mono ?_; rintro e w1 ⟨x1, g1, s1, rfl⟩; have HG1 := Lib.hid g1; have HS1 := Lib.hid s1; clear g1 s1)
    go_ret
    have h2 := HG1.out.alloc (.cells #[.int .i64 0, .slice none 0 0, .slice none 0 0, .int .i64 0, .bool false] 92)
    exact ⟨rfl, x1, h2.1, HS1.out.trans h2.2, fun hx => (by cases hx)⟩
  | true =>
    have HF2 : Hid (Calls Tryd.prog 75 #[.pointer (some ⟨F.G, 0, none⟩)] w fun e w' => ∃ x', Wk F w' x' ∧ WStep F w x w' x' ∧ e = .returned (.tuple #[.agg #[.int .i64 x.top.op, .slice Ap x.top.ps.length cp, .slice Ar x.top.rs.length cr, .int .i64 (x.top.h : Int), .bool x.top.dead], .bool true]) ∧ x'.f = x.f.take (x.f.length - 1) ∧ x'.s = x.cut) := Lib.hid (HFI.out.mono fun e w' hp => by
      obtain ⟨x', g1, s1, e1, hx⟩ := hp
      rw [hme, if_pos rfl] at e1
      unfold Fv.cells at e1
      rw [HER.out, HEP.out] at e1
      exact ⟨x', g1, s1, e1, hx hme⟩)
    have hms : x.mayShut = !(decide (x.top.op = 4) && !decide (x.top.ps = x.top.rs)) := by unfold Ws.mayShut; rw [hme]; rfl
    rw [hms]
    clear HFI hme hms
    have HEQ : Hid (∀ w1 x1, Wk F w1 x1 → WStep F w x w1 x1 → Calls Tryd.prog 57 #[.slice Ap x.top.ps.length cp, .slice Ar x.top.rs.length cr] w1 (BoolPost (decide (x.top.ps = x.top.rs)) w1)) := Lib.hid fun w1 x1 g1 s1 => by
      have h1 := s1.ints HPV.out
      have h2 := s1.ints HRV.out
      rw [HEP.out] at h1
      rw [HER.out] at h2
      exact equal_is _ w1 _ _ _ _ h1 h2
    cases h4 : decide (x.top.op = 4) with
    | false =>
      have d4 : (x.top.op == 4) = false := by have := of_decide_eq_false h4; simpa using this
      clear h4 HEQ
      rw [show (!(false && !decide (x.top.ps = x.top.rs))) = true from rfl]
      go_enter Tryd.func53, Tryd.ntmps53
      go_upto_region 4 with (first | (go_at_call 75; refine HF2.out.mono ?_; rintro e w1 ⟨x1, g1, s1, rfl, hxf, hxs⟩; have HG1 := Lib.hid g1; have HS1 := Lib.hid s1; have HXF := Lib.hid hxf; have HXS := Lib.hid hxs; clear g1 s1 hxf hxs))
      have hbl : Below w1.heap.size w1 (w1.alloc (.cells #[.int .i64 x.top.op, .slice Ap x.top.ps.length cp, .slice Ar x.top.rs.length cr, .int .i64 (x.top.h : Int), .bool x.top.dead] 92)) := (Below.refl _ _).alloc (Nat.le_refl _) _
      have hg2 := HG1.out.below hbl
      have b2 : ((w1.alloc (.cells #[.int .i64 x.top.op, .slice Ap x.top.ps.length cp, .slice Ar x.top.rs.length cr, .int .i64 (x.top.h : Int), .bool x.top.dead] 92))).cell? ⟨w1.heap.size, 2, none⟩ = some (.slice Ar x.top.rs.length cr) := by rw [World.cell?_alloc_new]; rfl
      have hfr : ¬ wpriv F x1 w1.heap.size := HG1.out.new_free (Nat.le_refl _)
      have HG2 := Lib.hid hg2
      have HB2 := Lib.hid b2
      have HFR := Lib.hid hfr
      clear hbl hg2 b2 hfr
      generalize (w1.alloc (.cells #[.int .i64 x.top.op, .slice Ap x.top.ps.length cp, .slice Ar x.top.rs.length cr, .int .i64 (x.top.h : Int), .bool x.top.dead] 92)) = w4 at *
      refine wp_region_held_drew (S := fun wz => wz.cell? ⟨w1.heap.size, 2, none⟩ = some (.slice Ar x.top.rs.length cr)) (by kernel_rfl) HB2.out (fun hS => ?_)
      show wpAnyH _ _ _ _ _ 7 #[false, false, false, false, false, false, false] _ _
      refine mT 0 29 rfl hS ?_
      refine mT 1 30 rfl hS ?_
      refine mT 2 31 rfl hS ?_
      refine mT 3 32 rfl hS ?_
      refine mT 4 33 rfl hS ?_
      refine mT 5 34 rfl hS ?_ (hy := by intro wS hSw; go_simp; try with_reducible rfl)
      have hg3 := HG2.out.1.below ((Below.refl w4.heap.size w4).drew)
      have HGV := Lib.hid (give_any HF.out hg3.1 _ x.top.rs (hg3.2.ints (HG2.out.2.ints (HS1.out.ints HRV.out))) (by rw [HXS.out]; exact HLC.out))
      rw [HER.out] at HGV
      have hlt : w1.heap.size < w4.drew.heap.size := World.block_lt_of_cell? _ _ hS
      have HS3 := Lib.hid hg3.2
      clear hg3
      refine mR 6 35 rfl fun K hK => ?_
      go_simp
      go_at_call 43
      refine HGV.out.mono ?_
      rintro e w5 ⟨rfl, x5, g5, s5, hf5, hs5⟩
      go_wp2_with fail
      refine hK.out _ _ ((s5.keeps.cell (p := ⟨w1.heap.size, 2, none⟩) ⟨hlt, HFR.out⟩).trans hS) (fun _ => ?_)
      clear hK K
      try simp only [List.setIfInBounds_toArray, List.set]
      refine wpAnyH_done (by kernel_rfl) ?_ _
      have HG5 := Lib.hid g5
      have HS5 := Lib.hid s5
      clear g5 s5 hS
      go_wp2
      go_ret
      exact ⟨rfl, x5, HG5.out, ((HS1.out.trans HG2.out.2).trans HS3.out).trans HS5.out, fun _ => ⟨hf5.trans HXF.out, hs5.trans (by rw [HXS.out])⟩⟩
    | true =>
      have d4 : (x.top.op == 4) = true := by have := of_decide_eq_true h4; simpa using this
      clear h4
      cases he : decide (x.top.ps = x.top.rs) with
      | false =>
        rw [he] at HEQ
        clear he
        rw [show (!(true && !false)) = false from rfl]
        go_enter Tryd.func53, Tryd.ntmps53
        go_wp2_with (first | (go_at_call 75; refine HF2.out.mono ?_; rintro e w1 ⟨x1, g1, s1, rfl, hxf, hxs⟩; have HG1 := Lib.hid g1; have HS1 := Lib.hid s1; have HXF := Lib.hid hxf; have HXS := Lib.hid hxs; clear g1 s1 hxf hxs) | (go_at_call 57; refine (HEQ.out _ x1 (HG1.out.alloc _).1 (HS1.out.trans (HG1.out.alloc _).2)).mono ?_; rintro e w3 ⟨rfl, hb3⟩; have HB3 := Lib.hid hb3; clear hb3))
        go_ret
        have h2 := HG1.out.alloc (.cells #[.int .i64 x.top.op, .slice Ap x.top.ps.length cp, .slice Ar x.top.rs.length cr, .int .i64 (x.top.h : Int), .bool x.top.dead] 92)
        have h3 := h2.1.below HB3.out
        exact ⟨rfl, x1, h3.1, (HS1.out.trans h2.2).trans h3.2, fun hx => (by cases hx)⟩
      | true =>
        rw [he] at HEQ
        clear he
        rw [show (!(true && !true)) = true from rfl]
        go_enter Tryd.func53, Tryd.ntmps53
        go_upto_region 4 with (first | (go_at_call 75; refine HF2.out.mono ?_; rintro e w1 ⟨x1, g1, s1, rfl, hxf, hxs⟩; have HG1 := Lib.hid g1; have HS1 := Lib.hid s1; have HXF := Lib.hid hxf; have HXS := Lib.hid hxs; clear g1 s1 hxf hxs) | (go_at_call 57; refine (HEQ.out _ x1 (HG1.out.alloc _).1 (HS1.out.trans (HG1.out.alloc _).2)).mono ?_; rintro e w3 ⟨rfl, hb3⟩; have HB3 := Lib.hid hb3; clear hb3))
        have hbl : Below w1.heap.size w1 w3 := ((Below.refl _ _).alloc (Nat.le_refl _) (.cells #[.int .i64 x.top.op, .slice Ap x.top.ps.length cp, .slice Ar x.top.rs.length cr, .int .i64 (x.top.h : Int), .bool x.top.dead] 92)).trans (HB3.out.mono (by rw [alloc_size]; omega))
        have hg2 := HG1.out.below hbl
        have b2 : (w3).cell? ⟨w1.heap.size, 2, none⟩ = some (.slice Ar x.top.rs.length cr) := ((HB3.out.cell (p := ⟨w1.heap.size, 2, none⟩) (by rw [alloc_size]; exact Nat.lt_succ_self _))).trans (by rw [World.cell?_alloc_new]; rfl)
        have hfr : ¬ wpriv F x1 w1.heap.size := HG1.out.new_free (Nat.le_refl _)
        have HG2 := Lib.hid hg2
        have HB2 := Lib.hid b2
        have HFR := Lib.hid hfr
        clear hbl hg2 b2 hfr
        generalize w3 = w4 at *
        refine wp_region_held_drew (S := fun wz => wz.cell? ⟨w1.heap.size, 2, none⟩ = some (.slice Ar x.top.rs.length cr)) (by kernel_rfl) HB2.out (fun hS => ?_)
        show wpAnyH _ _ _ _ _ 7 #[false, false, false, false, false, false, false] _ _
        refine mT 0 29 rfl hS ?_
        refine mT 1 30 rfl hS ?_
        refine mT 2 31 rfl hS ?_
        refine mT 3 32 rfl hS ?_
        refine mT 4 33 rfl hS ?_
        refine mT 5 34 rfl hS ?_ (hy := by intro wS hSw; go_simp; try with_reducible rfl)
        have hg3 := HG2.out.1.below ((Below.refl w4.heap.size w4).drew)
        have HGV := Lib.hid (give_any HF.out hg3.1 _ x.top.rs (hg3.2.ints (HG2.out.2.ints (HS1.out.ints HRV.out))) (by rw [HXS.out]; exact HLC.out))
        rw [HER.out] at HGV
        have hlt : w1.heap.size < w4.drew.heap.size := World.block_lt_of_cell? _ _ hS
        have HS3 := Lib.hid hg3.2
        clear hg3
        refine mR 6 35 rfl fun K hK => ?_
        go_simp
        go_at_call 43
        refine HGV.out.mono ?_
        rintro e w5 ⟨rfl, x5, g5, s5, hf5, hs5⟩
        go_wp2_with fail
        refine hK.out _ _ ((s5.keeps.cell (p := ⟨w1.heap.size, 2, none⟩) ⟨hlt, HFR.out⟩).trans hS) (fun _ => ?_)
        clear hK K
        try simp only [List.setIfInBounds_toArray, List.set]
        refine wpAnyH_done (by kernel_rfl) ?_ _
        have HG5 := Lib.hid g5
        have HS5 := Lib.hid s5
        clear g5 s5 hS
        go_wp2
        go_ret
        exact ⟨rfl, x5, HG5.out, ((HS1.out.trans HG2.out.2).trans HS3.out).trans HS5.out, fun _ => ⟨hf5.trans HXF.out, hs5.trans (by rw [HXS.out])⟩⟩
end
section
open Go.RowKit
structure Exi (F : Wx) (W : World) (x : Ws) (B : Nat) (i : Ins) (Al : Option Addr) (nl cl : Nat) : Prop where
  k0 : W.cell? ⟨B, 0, none⟩ = some (.int .i64 i.op)
  k1 : W.cell? ⟨B, 1, none⟩ = some (.int .i64 i.a)
  k2 : W.cell? ⟨B, 2, none⟩ = some (.int .i64 i.b)
  k4 : W.cell? ⟨B, 4, none⟩ = some (.slice Al nl cl)
  pf : ∃ A c, W.cell? ⟨F.G, 1, none⟩ = some (.slice A x.f.length c)
  pm : ∃ A c, W.cell? ⟨F.G, 5, none⟩ = some (.slice A F.m.mems.length c)
  pg : ∃ A c, W.cell? ⟨F.G, 6, none⟩ = some (.slice A F.m.globs.length c)
  pd : ∃ A c, W.cell? ⟨F.G, 8, none⟩ = some (.slice A F.m.datas.length c)
  pl : ∃ A c, W.cell? ⟨F.G, 11, none⟩ = some (.slice A F.lo.length c)
theorem Wk.q {F : Wx} {w : World} {x : Ws} (h : Wk F w x) (hF : F.prg) : w.cell? ⟨F.G, 5, none⟩ = some F.v.m3 ∧ w.cell? ⟨F.G, 6, none⟩ = some F.v.m4 ∧ w.cell? ⟨F.G, 8, none⟩ = some F.v.m6 ∧ w.cell? ⟨F.G, 10, none⟩ = some (.int .i64 F.prof) ∧ w.cell? ⟨F.G, 11, none⟩ = some F.lov ∧ w.cell? ⟨F.G, 12, none⟩ = some F.rv := by
  refine ⟨?_, ?_, ?_, ?_, ?_, ?_⟩ <;> rw [h.cell] <;> unfold wcells <;> rw [hF.1] <;> rfl
theorem Wk.exi {F : Wx} {w : World} {x : Ws} (h : Wk F w x) (hF : F.prg) (i : Ins) (Al : Option Addr) (nl cl : Nat) : Exi F (w.alloc (.cells #[.int .i64 i.op, .int .i64 i.a, .int .i64 i.b, .int .u64 i.n, .slice Al nl cl] 30)) x w.heap.size i Al nl cl := by
  have hg := (h.alloc (.cells #[.int .i64 i.op, .int .i64 i.a, .int .i64 i.b, .int .u64 i.n, .slice Al nl cl] 30)).1
  have hk : ∀ j : Nat, (w.alloc (.cells #[.int .i64 i.op, .int .i64 i.a, .int .i64 i.b, .int .u64 i.n, .slice Al nl cl] 30)).cell? ⟨w.heap.size, j, none⟩ = (#[.int .i64 i.op, .int .i64 i.a, .int .i64 i.b, .int .u64 i.n, .slice Al nl cl] : Array Value)[j]? := fun j => World.cell?_alloc_new ..
  obtain ⟨q3, q4, q6, _, ql, _⟩ := hg.q hF
  have p1 := hg.p1 hF
  have hm := hg.reads.mod
  obtain ⟨A0, c0, A1, c1, A2, c2, A3, c3, A4, c4, A5, c5, A6, c6, A7, c7, hv⟩ := mod_slices hm
  obtain ⟨Af, cf, hfv⟩ := owns_slice hg.fo
  obtain ⟨Ao, co, hlo, _⟩ := hg.reads.loc.form
  rw [hv] at q3 q4 q6
  rw [hfv] at p1
  rw [hlo] at ql
  exact ⟨hk 0, hk 1, hk 2, hk 4, ⟨_, _, p1⟩, ⟨_, _, q3⟩, ⟨_, _, q4⟩, ⟨_, _, q6⟩, ⟨_, _, ql⟩⟩
def Wx.env (F : Wx) : Env := ⟨F.m, F.prof, F.lo, F.ro⟩
end
section
open Go.RowKit
def restE (op : Int) : Prop := op ≠ 2 ∧ op ≠ 3 ∧ op ≠ 4 ∧ op ≠ 12 ∧ op ≠ 13 ∧ op ≠ 14 ∧ op ≠ 16 ∧ op ≠ 18 ∧ op ≠ 32 ∧ op ≠ 33 ∧ op ≠ 34 ∧ op ≠ 35 ∧ op ≠ 36 ∧ op ≠ 63 ∧ op ≠ 64 ∧ op ≠ 64523 ∧ op ≠ 64520 ∧ op ≠ 64522 ∧ op ≠ 64521
theorem restE_is (e : Env) (p : Pl) (x : Ins) (h : restE x.op) : existsC e p x = (!(accB x.op).2.2.2 || withinB x.a e.m.mems.length) := by
  obtain ⟨h1, h2, h3, h4, h5, h6, h7, h8, h9, h10, h11, h12, h13, h14, h15, h16, h17, h18, h19⟩ := h
  unfold existsC
  simp [h1, h2, h3, h4, h5, h6, h7, h8, h9, h10, h11, h12, h13, h14, h15, h16, h17, h18, h19]
set_option maxRecDepth 100000 in
set_option maxHeartbeats 4000000 in
theorem exists_rest {F : Wx} {w : World} {x : Ws} (hF : F.prg) (h : Wk F w x) (op a b n : Int) (l : List Int) (hop : restE op) (Al : Option Addr) (nl cl : Nat) :
    Calls Tryd.prog 27 #[.pointer (some ⟨F.G, 0, none⟩), .agg #[.int .i64 op, .int .i64 a, .int .i64 b, .int .u64 n, .slice Al nl cl]] w (BoolPost (existsC F.env x.pl ⟨op, a, b, n, l⟩) w) := by
  rw [restE_is _ _ ⟨op, a, b, n, l⟩ hop]
  obtain ⟨k0, k1, k2, k4, ⟨A1, c1, p1⟩, ⟨A5, c5, p5⟩, ⟨A6, c6, p6⟩, ⟨A8, c8, p8⟩, ⟨A11, c11, p11⟩⟩ := h.exi hF ⟨op, a, b, n, l⟩ Al nl cl
  have hb := (Below.refl w.heap.size w).alloc (Nat.le_refl _) (.cells #[.int .i64 op, .int .i64 a, .int .i64 b, .int .u64 n, .slice Al nl cl] 30)
  unfold Wx.env
  simp only at k0 k1 k2 k4 p1 p5 p6 p8 p11 hb ⊢
  generalize x.f.length = nf at *
  generalize F.m.mems.length = nm at *
  generalize F.m.globs.length = ng at *
  generalize F.m.datas.length = nd at *
  generalize F.lo.length = no at *
  obtain ⟨h1, h2, h3, h4, h5, h6, h7, h8, h9, h10, h11, h12, h13, h14, h15, h16, h17, h18, h19⟩ := hop
  have d1 : (op == 2) = false := by simpa using h1
  have d2 : (op == 3) = false := by simpa using h2
  have d3 : (op == 4) = false := by simpa using h3
  have d4 : (op == 12) = false := by simpa using h4
  have d5 : (op == 13) = false := by simpa using h5
  have d6 : (op == 14) = false := by simpa using h6
  have d7 : (op == 16) = false := by simpa using h7
  have d8 : (op == 18) = false := by simpa using h8
  have d9 : (op == 32) = false := by simpa using h9
  have d10 : (op == 33) = false := by simpa using h10
  have d11 : (op == 34) = false := by simpa using h11
  have d12 : (op == 35) = false := by simpa using h12
  have d13 : (op == 36) = false := by simpa using h13
  have d14 : (op == 63) = false := by simpa using h14
  have d15 : (op == 64) = false := by simpa using h15
  have d16 : (op == 64523) = false := by simpa using h16
  have d17 : (op == 64520) = false := by simpa using h17
  have d18 : (op == 64522) = false := by simpa using h18
  have d19 : (op == 64521) = false := by simpa using h19
  clear h1 h2 h3 h4 h5 h6 h7 h8 h9 h10 h11 h12 h13 h14 h15 h16 h17 h18 h19 h hF
  have HA := Lib.hid (fun w => access_any op w)
  obtain ⟨⟨a1, a2, a3, a4⟩, ha⟩ : ∃ q, accB op = q := ⟨_, rfl⟩
  rw [ha] at HA ⊢
  unfold AccPost at HA
  simp only at HA ⊢
  clear ha
  go_enter Tryd.func27, Tryd.ntmps27
  go_upto_region 1 with (fail)
  generalize w.alloc (.cells #[.int .i64 op, .int .i64 a, .int .i64 b, .int .u64 n, .slice Al nl cl] 30) = W at *
  have HB := Lib.hid hb
  have HK1 := Lib.hid k1
  clear hb
  go_quiet (fail)
  have hbd := below_drewN (Below.refl W.heap.size W) nq
  have HBD := Lib.hid hbd
  clear hbd
  cases a4 with
  | false =>
    rw [show (!false || withinB a nm) = true from rfl]
    go_wp2_with (go_at_call 50; refine (HA.out _).mono ?_; rintro e w2 ⟨rfl, hb2⟩; have HB2 := Lib.hid hb2; clear hb2)
    go_ret
    exact ⟨rfl, below_then (below_then HB.out HBD.out) HB2.out⟩
  | true =>
    rw [show (!true || withinB a nm) = withinB a nm from rfl]
    go_wp2_with (first | (go_at_call 50; refine (HA.out _).mono ?_; rintro e w2 ⟨rfl, hb2⟩; have HB2 := Lib.hid hb2; have j1 := (hb2.cell (World.block_lt_of_cell? (W.drewN nq) _ HK1.out)).trans HK1.out; clear hb2) | (go_at_call 21; refine (cwithin_any _ _ _).mono ?_; rintro e w3 ⟨rfl, rfl⟩))
    go_ret
    exact ⟨rfl, below_then (below_then HB.out HBD.out) HB2.out⟩
end
section
open Go.RowKit
theorem Ws.pl_s (x : Ws) : x.pl.s = x.s := rfl
theorem Ws.pl_f (x : Ws) : x.pl.f = x.f.map Fv.fr := rfl
theorem Ws.pl_top (x : Ws) : topF x.pl.f = x.top.fr := (Ws.top_fr x).symm
theorem take_yes {x : Ws} {q : List Int} (h : holdC x.top.h x.top.dead x.s q = true) : takeC x.pl q = some ⟨x.s.take (max (x.s.length - q.length) x.top.h), x.pl.f⟩ := by
  unfold takeC; rw [Ws.pl_top]; exact if_pos h
theorem take_no {x : Ws} {q : List Int} (h : holdC x.top.h x.top.dead x.s q = false) : takeC x.pl q = none := by
  unfold takeC; rw [Ws.pl_top]; exact if_neg (by show ¬ holdC x.top.h x.top.dead x.s q = true; rw [h]; decide)
theorem deadF_pl (x : Ws) : x.deadF.map Fv.fr = x.pl.f.set (x.pl.f.length - 1) { topF x.pl.f with dead := true } := by
  rw [Ws.pl_top, Ws.pl_f, List.length_map]
  unfold Ws.deadF
  rw [List.map_set]
  rfl
theorem leave_yes {x : Ws} {q : List Int} (h : holdC x.top.h x.top.dead x.s q = true) : leaveC x.pl q = some ⟨x.s.take x.top.h, x.deadF.map Fv.fr⟩ := by
  unfold leaveC
  rw [take_yes h, deadF_pl]
  show some (deadC _) = _
  unfold deadC
  simp only
  rw [Ws.pl_top, List.take_take]
  show some (Pl.mk (List.take (min x.top.h _) x.s) _) = _
  rw [Nat.min_eq_left (by omega)]
theorem leave_no {x : Ws} {q : List Int} (h : holdC x.top.h x.top.dead x.s q = false) : leaveC x.pl q = none := by
  unfold leaveC; rw [take_no h]; rfl
theorem finish_yes {x : Ws} (h : x.mayEnd = true) : finishC x.pl = some (x.top.fr, ⟨x.cut, (x.f.take (x.f.length - 1)).map Fv.fr⟩) := by
  unfold Ws.mayEnd at h
  rw [Bool.and_eq_true] at h
  unfold finishC
  rw [Ws.pl_top, show x.top.fr.rs = x.top.rs from rfl, take_yes h.1]
  show (if x.cut.length ≤ x.top.h then _ else _) = _
  rw [if_pos (show x.cut.length ≤ x.top.h from of_decide_eq_true h.2), Ws.pl_f, List.length_map, List.map_take]
  rfl
theorem finish_no {x : Ws} (h : x.mayEnd = false) : finishC x.pl = none := by
  unfold Ws.mayEnd at h
  unfold finishC
  rw [Ws.pl_top, show x.top.fr.rs = x.top.rs from rfl]
  cases hc : holdC x.top.h x.top.dead x.s x.top.rs with
  | false => rw [take_no hc]; rfl
  | true =>
    rw [hc, Bool.true_and] at h
    rw [take_yes hc]
    exact if_neg (of_decide_eq_false h)
theorem close_yes {x : Ws} (h : x.mayShut = true) : closeC x.pl = some ⟨x.cut ++ x.top.rs, (x.f.take (x.f.length - 1)).map Fv.fr⟩ := by
  unfold Ws.mayShut at h
  rw [Bool.and_eq_true] at h
  unfold closeC
  rw [finish_yes h.1]
  show (if x.top.op = 4 ∧ x.top.ps ≠ x.top.rs then _ else _) = _
  rw [if_neg (by
    intro ⟨h1, h2⟩
    rw [decide_eq_true h1, decide_eq_false h2] at h
    exact absurd h.2 (by decide))]
  rfl
theorem close_no {x : Ws} (h : x.mayShut = false) : closeC x.pl = none := by
  unfold Ws.mayShut at h
  unfold closeC
  cases hm : x.mayEnd with
  | false => rw [finish_no hm]; rfl
  | true =>
    rw [hm, Bool.true_and] at h
    rw [finish_yes hm]
    show (if x.top.op = 4 ∧ x.top.ps ≠ x.top.rs then _ else _) = _
    refine if_pos ?_
    by_cases h1 : x.top.op = 4
    · by_cases h2 : x.top.ps = x.top.rs
      · rw [decide_eq_true h1, decide_eq_true h2] at h; exact absurd h (by decide)
      · exact ⟨h1, h2⟩
    · rw [decide_eq_false h1] at h; simp at h
def FolPost (F : Wx) (w : World) (x : Ws) (r : Option Pl) (e : Ending) (w' : World) : Prop :=
  ∃ x', Wk F w' x' ∧ WStep F w x w' x' ∧ e = .returned (.bool r.isSome) ∧ ∀ q, r = some q → x'.pl = q
end
section
open Go.RowKit
def restF (op : Int) : Prop := op ≠ 13 ∧ op ≠ 16 ∧ op ≠ 32 ∧ op ≠ 33 ∧ op ≠ 34 ∧ op ≠ 35 ∧ op ≠ 63 ∧ op ≠ 64 ∧ op ≠ 64520 ∧ op ≠ 64522 ∧ op ≠ 64523
theorem restF_is (e : Env) (p : Pl) (x : Ins) (h : restF x.op) : effectC e p x = fixedC x.op := by
  obtain ⟨h0, h1, h2, h3, h4, h5, h6, h7, h8, h9, h10⟩ := h
  unfold effectC
  simp [h0, h1, h2, h3, h4, h5, h6, h7, h8, h9, h10]
set_option maxRecDepth 100000 in
set_option maxHeartbeats 4000000 in
theorem effect_rest (P : Value) (w : World) (op a b n : Int) (hop : restF op) (Al : Option Addr) (nl cl : Nat) :
    Calls Tryd.prog 61 #[P, .agg #[.int .i64 op, .int .i64 a, .int .i64 b, .int .u64 n, .slice Al nl cl]] w (FixPost (fixedC op) w) := by
  obtain ⟨h0, h1, h2, h3, h4, h5, h6, h7, h8, h9, h10⟩ := hop
  have d0 : (op == 13) = false := by simpa using h0
  have d1 : (op == 16) = false := by simpa using h1
  have d2 : (op == 32) = false := by simpa using h2
  have d3 : (op == 33) = false := by simpa using h3
  have d4 : (op == 34) = false := by simpa using h4
  have d5 : (op == 35) = false := by simpa using h5
  have d6 : (op == 63) = false := by simpa using h6
  have d7 : (op == 64) = false := by simpa using h7
  have d8 : (op == 64520) = false := by simpa using h8
  have d9 : (op == 64522) = false := by simpa using h9
  have d10 : (op == 64523) = false := by simpa using h10
  clear h0 h1 h2 h3 h4 h5 h6 h7 h8 h9 h10
  have HX := Lib.hid (fun w => fixed_any op w)
  generalize fixedC op = q at HX ⊢
  have hb := (Below.refl w.heap.size w).alloc (Nat.le_refl _) (.cells #[.int .i64 op, .int .i64 a, .int .i64 b, .int .u64 n, .slice Al nl cl] 30)
  have k0 : (w.alloc (.cells #[.int .i64 op, .int .i64 a, .int .i64 b, .int .u64 n, .slice Al nl cl] 30)).cell? ⟨w.heap.size, 0, none⟩ = some (.int .i64 op) := by rw [World.cell?_alloc_new]; rfl
  go_enter Tryd.func61, Tryd.ntmps61
  go_upto_region 1 with (fail)
  generalize w.alloc (.cells #[.int .i64 op, .int .i64 a, .int .i64 b, .int .u64 n, .slice Al nl cl] 30) = W at *
  have HB := Lib.hid hb
  clear hb
  go_wp2_with (go_at_call 78; refine (HX.out _).mono ?_; rintro e w2 ⟨p, r, rfl, hp, hr, hb2⟩; have HB2 := Lib.hid hb2; have HP := Lib.hid hp; have HR := Lib.hid hr; clear hb2 hp hr)
  go_ret2
  exact ⟨p, r, rfl, HP.out.keep (.refl _ _) fun k hk => ⟨Nat.le_trans HB.out.size hk.1, hk.2⟩, HR.out.keep (.refl _ _) fun k hk => ⟨Nat.le_trans HB.out.size hk.1, hk.2⟩, below_then HB.out HB2.out⟩
end
end Go.Proofs.YteohmkceapblkaaDoor
