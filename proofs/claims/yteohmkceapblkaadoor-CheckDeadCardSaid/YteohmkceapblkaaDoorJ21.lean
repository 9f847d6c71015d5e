/- A part of the proof. -/
import Derived.Test.YteohmkceapblkaaDoorJ20
namespace Go.Proofs.YteohmkceapblkaaDoor
section
open Go.RowKit
def wxOf (G : Nat) (v : Mv) (m : Mdl) (prof : Int) (lov : Value) (lo : List Int) (rv : Value) (ro : List Int) : Wx := ⟨G, false, 65, 92, v, m, prof, lov, lo, rv, ro⟩
def ws0 : Ws := ⟨.slice none 0 0, .slice none 0 0, [], []⟩
theorem wk_start (w : World) (v : Mv) (m : Mdl) (prof : Int) (lov : Value) (lo : List Int) (rv : Value) (ro : List Int) (hm : ModAt (fun k => k < w.heap.size) w v m) (hl : IntsK (fun k => k < w.heap.size) w lov lo) (hr : IntsK (fun k => k < w.heap.size) w rv ro) :
    Wk (wxOf w.heap.size v m prof lov lo rv ro) (w.alloc (.cells (wcells (wxOf w.heap.size v m prof lov lo rv ro) ws0) 65)) ws0 ∧ ∀ k, k < w.heap.size → wfree (wxOf w.heap.size v m prof lov lo rv ro) (w.alloc (.cells (wcells (wxOf w.heap.size v m prof lov lo rv ro) ws0) 65)) ws0 k := by
  have hfr : ∀ k, k < w.heap.size → wfree (wxOf w.heap.size v m prof lov lo rv ro) (w.alloc (.cells (wcells (wxOf w.heap.size v m prof lov lo rv ro) ws0) 65)) ws0 k := fun k hk => by
    refine ⟨by rw [alloc_size]; omega, ?_⟩
    rintro (e | e | e)
    · have : k = w.heap.size := e
      omega
    · cases e
    · cases e
  have hb := below_new (Below.refl w.heap.size w) (.cells (wcells (wxOf w.heap.size v m prof lov lo rv ro) ws0) 65)
  have hk : Keeps (fun k => k < w.heap.size) w (w.alloc (.cells (wcells (wxOf w.heap.size v m prof lov lo rv ro) ws0) 65)) := Keeps.below hb fun _ hk => hk
  exact ⟨⟨heap_new w _, World.ownsRow_nil _ _ _ _, fun g hg => (by cases hg), World.ownsRow_nil _ _ _ _, fun g hg => (by cases hg), ⟨hm.keep hk hfr, hl.keep hk hfr, hr.keep hk hfr, fun f hf => (by cases hf)⟩⟩, hfr⟩
def BegPost (v : Mv) (m : Mdl) (f prof : Int) (w : World) (e : Ending) (w' : World) : Prop :=
  ∃ F x, F.prg ∧ F.v = v ∧ F.m = m ∧ F.env = envC m f.toNat prof ∧ e = .returned (.tuple #[.pointer (some ⟨F.G, 0, none⟩), .int .i64 0]) ∧ Wk F w' x ∧ x.pl = beginC ⟨[], []⟩ 2 [] F.ro ∧ (∀ k, k < w.heap.size → wfree F w' x k) ∧ Below w.heap.size w w'
theorem beg_end {w W4 w' : World} {G : Nat} {v : Mv} {m : Mdl} {f prof : Int} {lov rv : Value} {x : Ws} {ro lo : List Int} (hlo : (envC m f.toNat prof).lo = lo) (hro : (envC m f.toNat prof).ro = ro) (hb : Below w.heap.size w W4)
    (hg : Wk (wxOf G v m prof lov lo rv ro) w' x) (hs : WStep (wxOf G v m prof lov lo rv ro) W4 ws0 w' x) (hfr : ∀ k, k < w.heap.size → wfree (wxOf G v m prof lov lo rv ro) W4 ws0 k)
    (hf : x.f = [⟨2, .slice none 0 0, rv, [], ro, 0, false⟩]) (hx : x.s = []) :
    BegPost v m f prof w (.returned (.tuple #[.pointer (some ⟨G, 0, none⟩), .int .i64 0])) w' := by
  refine ⟨_, x, ⟨rfl, rfl, rfl⟩, rfl, rfl, ?_, rfl, hg, ?_, fun k hk => hs.mono k (hfr k hk), hb.trans (hs.keeps.to_below hfr)⟩
  · show (⟨m, prof, lo, ro⟩ : Env) = _
    rw [← hro, ← hlo]
    rfl
  · unfold Ws.pl beginC
    rw [hf, hx]
    rfl
set_option maxRecDepth 100000 in
set_option maxHeartbeats 4000000 in
theorem beg_any (w : World) (v : Mv) (m : Mdl) (h : ModAt (fun k => k < w.heap.size) w v m) (hs : Short m) (f : Nat) (hf : f < m.funs.length) (t : List Int × List Int) (ht : fsigB m ((m.imps.length : Int) + (f : Int)) = some t) (prof : Int) :
    Calls Tryd.prog 11 #[.agg v.cells, .int .i64 (f : Int), .int .i64 prof] w (BegPost v m (f : Int) prof w) := by
  have hro : (envC m (f : Int).toNat prof).ro = t.2 := by show ((fsigB m _).getD ([], [])).2 = t.2; rw [Int.toNat_natCast, ht]; rfl
  have hlo : (envC m (f : Int).toNat prof).lo = locB m ((m.imps.length : Int) + (f : Int)) := by show locB m _ = _; rw [Int.toNat_natCast]
  have hwi : withinB (f : Int) m.funs.length = true := by unfold withinB; simp; omega
  obtain ⟨fi, hfi⟩ : ∃ fi : Int, fi = (m.imps.length : Int) + (f : Int) := ⟨_, rfl⟩
  have hs1 := hs.2.1
  have hs2 := hs.2.2.1
  have hfb : -9223372036854775808 ≤ fi ∧ fi ≤ 9223372036854775807 := by omega
  rw [← hfi] at ht hlo
  have HRO := Lib.hid hro
  have HLO := Lib.hid hlo
  have HSG := Lib.hid (fun wz (hb : Below w.heap.size w wz) => ht ▸ sig_any wz v m (h.keep (Keeps.below hb fun _ hk => hk) fun _ hk => Nat.lt_of_lt_of_le hk hb.size) hs fi hfb)
  have HLC := Lib.hid (fun wz (hb : Below w.heap.size w wz) => locals_any wz v m (h.keep (Keeps.below hb fun _ hk => hk) fun _ hk => Nat.lt_of_lt_of_le hk hb.size) hs fi hfb)
  generalize locB m fi = lo at HLC HLO
  have HMA := Lib.hid (fun wz (hb : Below w.heap.size w wz) => (h.keep (Keeps.below hb fun _ hk => hk) fun _ hk => Nat.lt_of_lt_of_le hk hb.size : ModAt (fun k => k < wz.heap.size) wz v m))
  obtain ⟨A0, c0, A1, c1, A2, c2, A3, c3, A4, c4, A5, c5, A6, c6, A7, c7, rfl⟩ := mod_slices h
  simp only [Mv.cells] at HSG HLC ⊢
  clear h hs
  obtain ⟨n0, hn0⟩ : ∃ n, m.types.length = n := ⟨_, rfl⟩
  obtain ⟨n1, hn1⟩ : ∃ n, m.imps.length = n := ⟨_, rfl⟩
  obtain ⟨n2, hn2⟩ : ∃ n, m.funs.length = n := ⟨_, rfl⟩
  obtain ⟨n3, hn3⟩ : ∃ n, m.mems.length = n := ⟨_, rfl⟩
  obtain ⟨n4, hn4⟩ : ∃ n, m.globs.length = n := ⟨_, rfl⟩
  obtain ⟨n5, hn5⟩ : ∃ n, m.exps.length = n := ⟨_, rfl⟩
  obtain ⟨n6, hn6⟩ : ∃ n, m.datas.length = n := ⟨_, rfl⟩
  obtain ⟨n7, hn7⟩ : ∃ n, m.cus.length = n := ⟨_, rfl⟩
  rw [hn0, hn1, hn2, hn3, hn4, hn5, hn6, hn7] at HSG HLC HMA ⊢
  rw [hn1] at hfi hs1
  rw [hn2] at hwi hs2
  have e1 : IntKind.i64.wrap ((n1 : Int) + (f : Int)) = fi := by rw [← hfi]; exact IntWalk.i64_in _ (by omega)
  obtain ⟨W, hW⟩ : ∃ W, W = w.alloc (.cells #[.slice A0 n0 c0, .slice A1 n1 c1, .slice A2 n2 c2, .slice A3 n3 c3, .slice A4 n4 c4, .slice A5 n5 c5, .slice A6 n6 c6, .slice A7 n7 c7] 42) := ⟨_, rfl⟩
  have hbw : Below w.heap.size w W := hW ▸ (Below.refl _ _).alloc (Nat.le_refl _) _
  have HBW := Lib.hid hbw
  have HB8 : Hid (∀ wz, Below W.heap.size W wz → Box8 wz w.heap.size (.slice A0 n0 c0) (.slice A1 n1 c1) (.slice A2 n2 c2) (.slice A3 n3 c3) (.slice A4 n4 c4) (.slice A5 n5 c5) (.slice A6 n6 c6) (.slice A7 n7 c7)) := Lib.hid fun wz hz => by rw [hW] at hz; exact box8_new w _ _ _ _ _ _ _ _ hz
  have HW := Lib.hid hW
  obtain ⟨b0, b1, b2, b3, b4, b5, b6, b7⟩ := HB8.out W (Below.refl _ _)
  clear hbw hW hn0 hn1 hn2 hn3 hn4 hn5 hn6 hn7 hs1 hs2 hfi hfb hf ht hro hlo
  go_enter Tryd.func11, Tryd.ntmps11
  go_upto_region 1 with (fail)
  rw [← HW.out]
  go_upto_region 4 with (first | (go_at_call 21; refine (cwithin_any _ _ _).mono ?_; rintro e w1 ⟨rfl, rfl⟩; rw [hwi]))
  clear b0 b1 b2 b3 b4 b5 b6 b7 hwi
  obtain ⟨b0, b1, b2, b3, b4, b5, b6, b7⟩ := HB8.out W (Below.refl _ _)
  go_upto_region 5 with (first | (go_at_call 22; refine (HSG.out W HBW.out).mono ?_; rintro e w1 ⟨pv, rv, rfl, hp, hr, hb1⟩; obtain ⟨Ap, cp, rfl, _, _⟩ := hp.form; obtain ⟨Ar, cr, rfl, _, _⟩ := hr.form; have HB1 := Lib.hid hb1; have HRV := Lib.hid hr; clear hp hr hb1))
  obtain ⟨W2, hW2⟩ : ∃ W2, W2 = w1.alloc (.cells #[.slice Ap t.1.length cp, .slice Ar t.2.length cr] 26) := ⟨_, rfl⟩
  have HB2 : Hid (Below W.heap.size W W2) := Lib.hid (hW2 ▸ below_new HB1.out _)
  have HB12 : Hid (Below w1.heap.size w1 W2) := Lib.hid (hW2 ▸ below_new (Below.refl _ _) _)
  have HZ : Hid (∀ wz, Below W2.heap.size W2 wz → wz.cell? ⟨w1.heap.size, 1, none⟩ = some (.slice Ar t.2.length cr) ∧ Box8 wz w.heap.size (.slice A0 n0 c0) (.slice A1 n1 c1) (.slice A2 n2 c2) (.slice A3 n3 c3) (.slice A4 n4 c4) (.slice A5 n5 c5) (.slice A6 n6 c6) (.slice A7 n7 c7)) := Lib.hid fun wz hz => by
    refine ⟨?_, HB8.out wz (below_then HB2.out hz)⟩
    rw [hW2] at hz
    exact (hz.cell (p := ⟨w1.heap.size, 1, none⟩) (by simp)).trans (World.cell?_alloc_new w1 _ _ 1)
  rw [← hW2]
  clear hW2 b0 b1 b2 b3 b4 b5 b6 b7
  obtain ⟨z1, b0, b1, b2, b3, b4, b5, b6, b7⟩ := HZ.out W2 (Below.refl _ _)
  go_upto_region 7 with (fail)
  go_region_held3 (fun wz => wz.cell? ⟨w1.heap.size, 1, none⟩ = some (.slice Ar t.2.length cr) ∧ wz.cell? ⟨w.heap.size, 0, none⟩ = some (.slice A0 n0 c0) ∧ wz.cell? ⟨w.heap.size, 1, none⟩ = some (.slice A1 n1 c1) ∧ wz.cell? ⟨w.heap.size, 2, none⟩ = some (.slice A2 n2 c2) ∧ wz.cell? ⟨w.heap.size, 3, none⟩ = some (.slice A3 n3 c3) ∧ wz.cell? ⟨w.heap.size, 4, none⟩ = some (.slice A4 n4 c4) ∧ wz.cell? ⟨w.heap.size, 5, none⟩ = some (.slice A5 n5 c5) ∧ wz.cell? ⟨w.heap.size, 6, none⟩ = some (.slice A6 n6 c6) ∧ wz.cell? ⟨w.heap.size, 7, none⟩ = some (.slice A7 n7 c7))
    (first | go_keep | exact ⟨z1, b0, b1, b2, b3, b4, b5, b6, b7⟩ | exact HX3.out)
    ((go_at_call 23; refine (HLC.out _ (below_then HBW.out (below_then HB2.out ((Below.refl _ _).drew)))).mono ?_; rintro e w3 ⟨Al, cl, rfl, _, hl3, hb3⟩; have HL3 := Lib.hid hl3; have HB3 := Lib.hid (below_then ((Below.refl W2.heap.size W2).drew) hb3); have HX3 := Lib.hid (HZ.out _ HB3.out); clear hl3 hb3))
  clear z1 b0 b1 b2 b3 b4 b5 b6 b7
  obtain ⟨W4, hW4⟩ : ∃ W4, W4 = w3.alloc (.cells #[.slice none 0 0, .slice none 0 0, .slice A0 n0 c0, .slice A1 n1 c1, .slice A2 n2 c2, .slice A3 n3 c3, .slice A4 n4 c4, .slice A5 n5 c5, .slice A6 n6 c6, .slice A7 n7 c7, .int .i64 prof, .slice Al lo.length cl, .slice Ar t.2.length cr] 65) := ⟨_, rfl⟩
  have hb23 : Below W.heap.size W w3 := below_then HB2.out HB3.out
  have hr3 : IntsK (fun k => k < w3.heap.size) w3 (.slice Ar t.2.length cr) t.2 := HRV.out.keep (Keeps.below (HB12.out.trans (HB3.out.mono HB12.out.size)) fun k hk => by rcases hk with hk | hk; exact hk.elim; exact hk.2) fun k hk => by
    have h1 := HB12.out.size
    have h2 := HB3.out.size
    rcases hk with hk | hk
    · exact hk.elim
    · omega
  have hst := wk_start w3 _ m prof (.slice Al lo.length cl) lo (.slice Ar t.2.length cr) t.2 (HMA.out w3 (below_then HBW.out hb23)) (HL3.out.keep (.refl _ _) fun _ hk => hk.2) hr3
  have HST := Lib.hid (show Wk _ W4 ws0 ∧ ∀ k, k < w3.heap.size → wfree _ W4 ws0 k by rw [hW4]; exact hst)
  have HW4 := Lib.hid hW4
  have hz4 := HZ.out W4 (below_then HB3.out (hW4 ▸ below_new (Below.refl _ _) _))
  have HZ4 := Lib.hid hz4
  have z1 := hz4.1
  have HB23 := Lib.hid hb23
  have HLT : Hid (w1.heap.size < w3.heap.size) := Lib.hid (Nat.lt_of_lt_of_le (World.block_lt_of_cell? W2 _ (HZ.out W2 (Below.refl _ _)).1) HB3.out.size)
  rw [← HW4.out]
  clear hst hr3 hb23 hW4 hz4
  go_upto_region 8 with (fail)
  go_region_held3 (fun wz => wz.cell? ⟨w1.heap.size, 1, none⟩ = some (.slice Ar t.2.length cr))
    (first | go_keep | exact z1 | exact HX5.out)
    ((go_at_call 24; refine (begin_any ⟨rfl, rfl, rfl⟩ HST.out.1.drew.1 2 (.slice none 0 0) (.slice Ar t.2.length cr) [] t.2 (IntsK.nil _ _) HST.out.1.drew.1.reads.own (by show 0 + 0 ≤ 1000000; omega) (by show 0 + 1 ≤ 1000000; omega)).mono ?_; rintro e w5 ⟨rfl, x5, hg5, hs5, hf5, hx5⟩; have HG5 := Lib.hid hg5; have HS5 := Lib.hid (HST.out.1.drew.2.trans hs5); have HF5 := Lib.hid hf5; have HX55 := Lib.hid hx5; have HX5 := Lib.hid ((HS5.out.keeps.cell (p := ⟨w1.heap.size, 1, none⟩) (HST.out.2 _ HLT.out)).trans z1); clear hg5 hs5 hf5 hx5))
  clear z1
  go_wp2
  go_ret2
  have hsz : w.heap.size ≤ w3.heap.size := (below_then HBW.out HB23.out).size
  exact beg_end HLO.out HRO.out (by rw [HW4.out]; exact below_new (below_then HBW.out HB23.out) _) HG5.out HS5.out (fun k hk => HST.out.2 k (by omega)) (by rw [HF5.out]; rfl) (by rw [HX55.out]; rfl)
end
section
open Go.RowKit
theorem pop_pl (x : Ws) : popC x.pl = if x.s.length ≤ x.top.h then (if x.top.dead then some (0, x.pl) else none) else some (x.s.getD (x.s.length - 1) 0, ⟨x.s.take (x.s.length - 1), x.pl.f⟩) := by
  unfold popC
  rw [Ws.pl_top]
  rfl
set_option maxRecDepth 100000 in
set_option maxHeartbeats 4000000 in
theorem follow_0 {F : Wx} {w : World} {x : Ws} (hF : F.prg) (h : Wk F w x) (h0 : 0 < x.f.length) (hs : x.s.length ≤ 900000) (hh : x.top.h ≤ x.s.length) (a b n : Int) (l : List Int) (Al : Option Addr) (nl cl : Nat) :
    Calls Tryd.prog 28 #[.pointer (some ⟨F.G, 0, none⟩), .agg #[.int .i64 0, .int .i64 a, .int .i64 b, .int .u64 n, .slice Al nl cl]] w (FolPost F w x (followC F.env x.pl ⟨0, a, b, n, l⟩)) := by
  rw [show followC F.env x.pl ⟨0, a, b, n, l⟩ = leaveC x.pl [] by unfold followC; simp]
  obtain ⟨W, hW⟩ : ∃ W, W = w.alloc (.cells #[.int .i64 0, .int .i64 a, .int .i64 b, .int .u64 n, .slice Al nl cl] 30) := ⟨_, rfl⟩
  have k0 : W.cell? ⟨w.heap.size, 0, none⟩ = some (.int .i64 0) := by rw [hW, World.cell?_alloc_new]; rfl
  have HG1 := Lib.hid (hW ▸ h.alloc (.cells #[.int .i64 0, .int .i64 a, .int .i64 b, .int .u64 n, .slice Al nl cl] 30) : Wk F W x ∧ WStep F w x W x)
  have HW := Lib.hid hW
  have HT := Lib.hid (leave_any hF HG1.out.1 h0 (by omega) (.slice none 0 0) [] (IntsK.nil _ _) (by simp) hh)
  clear hW h
  cases hR : holdC x.top.h x.top.dead x.s [] with
  | false =>
    rw [leave_no hR]
    rw [hR] at HT
    clear hR
    go_enter Tryd.func28, Tryd.ntmps28
    go_upto_region 1 with (fail)
    rw [← HW.out]
    go_wp2_with (go_at_call 54; refine HT.out.mono ?_; rintro e w3 ⟨rfl, x3, g3, s3, -⟩; have HG3 := Lib.hid g3; have HS3 := Lib.hid s3; clear g3 s3)
    go_ret
    exact ⟨x3, HG3.out, HG1.out.2.trans HS3.out, rfl, fun q hq => (by cases hq)⟩
  | true =>
    rw [leave_yes hR]
    rw [hR] at HT
    clear hR
    go_enter Tryd.func28, Tryd.ntmps28
    go_upto_region 1 with (fail)
    rw [← HW.out]
    go_wp2_with (go_at_call 54; refine HT.out.mono ?_; rintro e w3 ⟨rfl, x3, g3, s3, hx⟩; have HG3 := Lib.hid g3; have HS3 := Lib.hid s3; have HX3 := Lib.hid (hx rfl); clear g3 s3 hx)
    go_ret
    refine ⟨x3, HG3.out, HG1.out.2.trans HS3.out, rfl, fun q hq => ?_⟩
    obtain rfl := Option.some.inj hq
    show Ws.pl x3 = _
    unfold Ws.pl
    rw [HX3.out.1, HX3.out.2]
set_option maxRecDepth 100000 in
set_option maxHeartbeats 4000000 in
theorem follow_11 {F : Wx} {w : World} {x : Ws} (hF : F.prg) (h : Wk F w x) (h0 : 0 < x.f.length) (hs : x.s.length ≤ 900000) (hh : x.top.h ≤ x.s.length) (hrl : x.top.rs.length ≤ 100000) (a b n : Int) (l : List Int) (Al : Option Addr) (nl cl : Nat) :
    Calls Tryd.prog 28 #[.pointer (some ⟨F.G, 0, none⟩), .agg #[.int .i64 11, .int .i64 a, .int .i64 b, .int .u64 n, .slice Al nl cl]] w (FolPost F w x (followC F.env x.pl ⟨11, a, b, n, l⟩)) := by
  rw [show followC F.env x.pl ⟨11, a, b, n, l⟩ = closeC x.pl by unfold followC; simp]
  obtain ⟨W, hW⟩ : ∃ W, W = w.alloc (.cells #[.int .i64 11, .int .i64 a, .int .i64 b, .int .u64 n, .slice Al nl cl] 30) := ⟨_, rfl⟩
  have k0 : W.cell? ⟨w.heap.size, 0, none⟩ = some (.int .i64 11) := by rw [hW, World.cell?_alloc_new]; rfl
  have HG1 := Lib.hid (hW ▸ h.alloc (.cells #[.int .i64 11, .int .i64 a, .int .i64 b, .int .u64 n, .slice Al nl cl] 30) : Wk F W x ∧ WStep F w x W x)
  have HW := Lib.hid hW
  have HT := Lib.hid (close_any hF HG1.out.1 h0 hs hrl hh)
  clear hW h
  cases hR : x.mayShut with
  | false =>
    rw [close_no hR]
    rw [hR] at HT
    clear hR
    go_enter Tryd.func28, Tryd.ntmps28
    go_upto_region 1 with (fail)
    rw [← HW.out]
    go_wp2_with (go_at_call 53; refine HT.out.mono ?_; rintro e w3 ⟨rfl, x3, g3, s3, -⟩; have HG3 := Lib.hid g3; have HS3 := Lib.hid s3; clear g3 s3)
    go_ret
    exact ⟨x3, HG3.out, HG1.out.2.trans HS3.out, rfl, fun q hq => (by cases hq)⟩
  | true =>
    rw [close_yes hR]
    rw [hR] at HT
    clear hR
    go_enter Tryd.func28, Tryd.ntmps28
    go_upto_region 1 with (fail)
    rw [← HW.out]
    go_wp2_with (go_at_call 53; refine HT.out.mono ?_; rintro e w3 ⟨rfl, x3, g3, s3, hx⟩; have HG3 := Lib.hid g3; have HS3 := Lib.hid s3; have HX3 := Lib.hid (hx rfl); clear g3 s3 hx)
    go_ret
    refine ⟨x3, HG3.out, HG1.out.2.trans HS3.out, rfl, fun q hq => ?_⟩
    obtain rfl := Option.some.inj hq
    show Ws.pl x3 = _
    unfold Ws.pl
    rw [HX3.out.1, HX3.out.2]
set_option maxRecDepth 100000 in
set_option maxHeartbeats 4000000 in
theorem follow_26 {F : Wx} {w : World} {x : Ws} (hF : F.prg) (h : Wk F w x) (h0 : 0 < x.f.length) (hs : x.s.length ≤ 900000) (a b n : Int) (l : List Int) (Al : Option Addr) (nl cl : Nat) :
    Calls Tryd.prog 28 #[.pointer (some ⟨F.G, 0, none⟩), .agg #[.int .i64 26, .int .i64 a, .int .i64 b, .int .u64 n, .slice Al nl cl]] w (FolPost F w x (followC F.env x.pl ⟨26, a, b, n, l⟩)) := by
  rw [show followC F.env x.pl ⟨26, a, b, n, l⟩ = (popC x.pl).map fun q => q.2 by unfold followC; simp]
  obtain ⟨W, hW⟩ : ∃ W, W = w.alloc (.cells #[.int .i64 26, .int .i64 a, .int .i64 b, .int .u64 n, .slice Al nl cl] 30) := ⟨_, rfl⟩
  have k0 : W.cell? ⟨w.heap.size, 0, none⟩ = some (.int .i64 26) := by rw [hW, World.cell?_alloc_new]; rfl
  have HG1 := Lib.hid (hW ▸ h.alloc (.cells #[.int .i64 26, .int .i64 a, .int .i64 b, .int .u64 n, .slice Al nl cl] 30) : Wk F W x ∧ WStep F w x W x)
  have HW := Lib.hid hW
  have HT := Lib.hid (pop_any hF HG1.out.1 h0 (by omega))
  clear hW h
  rw [pop_pl]
  by_cases hle : x.s.length ≤ x.top.h
  · rw [if_pos hle, if_pos hle] at HT
    rw [if_pos hle]
    cases hd : x.top.dead with
    | false =>
      rw [hd] at HT
      clear hd
      go_enter Tryd.func28, Tryd.ntmps28
      go_upto_region 1 with (fail)
      rw [← HW.out]
      go_wp2_with (go_at_call 58; refine HT.out.mono ?_; rintro e w3 ⟨rfl, x3, g3, s3, hf3, hs3⟩; have HG3 := Lib.hid g3; have HS3 := Lib.hid s3; have HX3 := Lib.hid (And.intro hf3 hs3); clear g3 s3 hf3 hs3)
      go_ret
      exact ⟨x3, HG3.out, HG1.out.2.trans HS3.out, rfl, fun q hq => (by cases hq)⟩
    | true =>
      rw [hd] at HT
      clear hd
      go_enter Tryd.func28, Tryd.ntmps28
      go_upto_region 1 with (fail)
      rw [← HW.out]
      go_wp2_with (go_at_call 58; refine HT.out.mono ?_; rintro e w3 ⟨rfl, x3, g3, s3, hf3, hs3⟩; have HG3 := Lib.hid g3; have HS3 := Lib.hid s3; have HX3 := Lib.hid (And.intro hf3 hs3); clear g3 s3 hf3 hs3)
      go_ret
      refine ⟨x3, HG3.out, HG1.out.2.trans HS3.out, rfl, fun q hq => ?_⟩
      obtain rfl := Option.some.inj hq
      show Ws.pl x3 = Ws.pl x
      unfold Ws.pl
      rw [HX3.out.1, HX3.out.2]
  · rw [if_neg hle, if_neg hle] at HT
    rw [if_neg hle]
    go_enter Tryd.func28, Tryd.ntmps28
    go_upto_region 1 with (fail)
    rw [← HW.out]
    go_wp2_with (go_at_call 58; refine HT.out.mono ?_; rintro e w3 ⟨rfl, x3, g3, s3, hf3, hs3⟩; have HG3 := Lib.hid g3; have HS3 := Lib.hid s3; have HX3 := Lib.hid (And.intro hf3 hs3); clear g3 s3 hf3 hs3)
    go_ret
    refine ⟨x3, HG3.out, HG1.out.2.trans HS3.out, rfl, fun q hq => ?_⟩
    obtain rfl := Option.some.inj hq
    show Ws.pl x3 = _
    unfold Ws.pl
    rw [HX3.out.1, HX3.out.2]
end
end Go.Proofs.YteohmkceapblkaaDoor
