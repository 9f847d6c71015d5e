/- A part of the proof. -/
import Derived.Test.YteohmkceapblkaaDoorJ22
import Derived.Test.YteohmkceapblkaaDoorJ2
import Derived.Lib.ConvBytes
namespace Go.Proofs.YteohmkceapblkaaDoor
section
open Go.RowKit
def StepsOk (good : Ins → Prop) : Prop := ∀ (F : Wx) (w : World) (x : Ws) (n : Nat) (i : Ins) (Al : Option Addr) (nl cl : Nat), F.prg → Wk F w x → Short F.m → EnvOk F.env → Inv n x.pl → n ≤ 65536 → good i → IntsK (wfree F w x) w (.slice Al nl cl) i.l →
  Calls Tryd.prog 12 #[.pointer (some ⟨F.G, 0, none⟩), .agg #[.int .i64 i.op, .int .i64 i.a, .int .i64 i.b, .int .u64 i.n, .slice Al nl cl]] w (StepPost F w x (stepC F.env x.pl i))
theorem drop_at {α : Type} (l : List α) (k : Nat) (d : α) (h : k < l.length) : l.drop k = l.getD k d :: l.drop (k + 1) := by
  rw [List.drop_eq_getElem_cons h, List.getD_eq_getElem?_getD, List.getElem?_eq_getElem h]; rfl
theorem walkC_at {e : Env} {l : List Ins} {k : Nat} {p : Pl} (h : k < l.length) : walkC e (l.drop k) k p = if (stepC e p (l.getD k ins0)).1 = 0 then walkC e (l.drop (k + 1)) (k + 1) (stepC e p (l.getD k ins0)).2 else ((k : Int), (stepC e p (l.getD k ins0)).1) := by
  rw [drop_at l k ins0 h, walkC]
theorem walkC_end {e : Env} {l : List Ins} {p : Pl} : walkC e (l.drop l.length) l.length p = if 0 < p.f.length then (-1, 12) else (-1, 0) := by
  rw [List.drop_eq_nil_of_le (Nat.le_refl _), walkC]
def FuncPost (r : Int × Int) (w : World) (e : Ending) (w' : World) : Prop := e = .returned (.tuple #[.int .i64 r.1, .int .i64 r.2]) ∧ Below w.heap.size w w'
theorem funcC_ok {m : Mdl} {f : Nat} {t : List Int × List Int} (hf : f < m.funs.length) (ht : fsigB m ((m.imps.length : Int) + (f : Int)) = some t) (prof : Int) : funcC m (f : Int) prof = walkC (envC m f prof) (m.funs.getD f fnc0).code 0 (beginC ⟨[], []⟩ 2 [] (envC m f prof).ro) := by
  unfold funcC
  rw [if_neg (by unfold withinB; simp; omega), ht, if_neg (by simp), Int.toNat_natCast]
set_option maxRecDepth 100000 in
set_option maxHeartbeats 4000000 in
theorem func_ok {good : Ins → Prop} (HS : StepsOk good) (w : World) (v : Mv) (m : Mdl) (h : ModAt (fun k => k < w.heap.size) w v m) (hs : Short m) (hty : ∀ t ∈ m.types, t.1.length ≤ 8 ∧ t.2.length ≤ 8) (f : Nat) (hf : f < m.funs.length) (t : List Int × List Int) (ht : fsigB m ((m.imps.length : Int) + (f : Int)) = some t) (prof : Int)
    (hcl : (m.funs.getD f fnc0).code.length ≤ 65536) (hgd : ∀ i ∈ (m.funs.getD f fnc0).code, good i) :
    Calls Tryd.prog 6 #[.agg v.cells, .int .i64 (f : Int), .int .i64 prof] w (FuncPost (funcC m (f : Int) prof) w) := by
  rw [funcC_ok hf ht prof]
  have HBG := Lib.hid (fun wz (hb : Below w.heap.size w wz) => beg_any wz v m (h.keep (Keeps.below hb fun _ hk => hk) fun _ hk => Nat.lt_of_lt_of_le hk hb.size) hs f hf t ht prof)
  have HEN : Hid (EnvOk (envC m f prof)) := Lib.hid ⟨by show ((fsigB m _).getD ([], [])).2.length ≤ 8; rw [ht]; exact (hty t (fsigB_mem ht)).2, hty⟩
  have q2 := h.funs
  obtain ⟨A0, c0, A1, c1, A2, c2, A3, c3, A4, c4, A5, c5, A6, c6, A7, c7, rfl⟩ := mod_slices h
  simp only [Mv.cells] at HBG ⊢
  simp only at q2
  clear h
  obtain ⟨g, o, c', he, hq1, hq2⟩ := CellsK.some_ q2 (by omega)
  simp only [Value.slice.injEq] at he
  obtain ⟨rfl, -, rfl⟩ := he
  obtain ⟨u2, k2, h2⟩ := CellsK.at_ q2 f 2 hf (by decide)
  have h2 : CodeK (fun k => k < w.heap.size) w u2 (m.funs.getD f fnc0).code := h2
  generalize (m.funs.getD f fnc0).code = code at h2 hcl hgd ⊢
  obtain ⟨Pc, cc, rfl, _, _⟩ := CellsK.form h2
  have HSH := Lib.hid hs
  obtain ⟨n0, hn0⟩ : ∃ n, m.types.length = n := ⟨_, rfl⟩
  obtain ⟨n1, hn1⟩ : ∃ n, m.imps.length = n := ⟨_, rfl⟩
  obtain ⟨n2, hn2⟩ : ∃ n, m.funs.length = n := ⟨_, rfl⟩
  obtain ⟨n3, hn3⟩ : ∃ n, m.mems.length = n := ⟨_, rfl⟩
  obtain ⟨n4, hn4⟩ : ∃ n, m.globs.length = n := ⟨_, rfl⟩
  obtain ⟨n5, hn5⟩ : ∃ n, m.exps.length = n := ⟨_, rfl⟩
  obtain ⟨n6, hn6⟩ : ∃ n, m.datas.length = n := ⟨_, rfl⟩
  obtain ⟨n7, hn7⟩ : ∃ n, m.cus.length = n := ⟨_, rfl⟩
  rw [hn0, hn1, hn2, hn3, hn4, hn5, hn6, hn7] at HBG ⊢
  rw [hn2] at hf hq1
  unfold maxLen at hq2
  obtain ⟨nc, hnc⟩ : ∃ n, code.length = n := ⟨_, rfl⟩
  have HNC := Lib.hid hnc
  have HC2 := Lib.hid h2
  rw [hnc] at k2 hcl HC2
  have HGD := Lib.hid hgd
  have hf0 : decide ((0 : Int) ≤ (f : Int)) = true := by simp
  have hf1 : decide ((f : Int) < (n2 : Int)) = true := by simp; omega
  have hf2 : decide (f < n2) = true := by simp; omega
  obtain ⟨W, hW⟩ : ∃ W, W = w.alloc (.cells #[.slice A0 n0 c0, .slice A1 n1 c1, .slice (some ⟨g, o, none⟩) n2 c2, .slice A3 n3 c3, .slice A4 n4 c4, .slice A5 n5 c5, .slice A6 n6 c6, .slice A7 n7 c7] 42) := ⟨_, rfl⟩
  have hbw : Below w.heap.size w W := hW ▸ (Below.refl _ _).alloc (Nat.le_refl _) _
  have HBW := Lib.hid hbw
  have HB8 : Hid (∀ wz, Below W.heap.size W wz → Box8 wz w.heap.size (.slice A0 n0 c0) (.slice A1 n1 c1) (.slice (some ⟨g, o, none⟩) n2 c2) (.slice A3 n3 c3) (.slice A4 n4 c4) (.slice A5 n5 c5) (.slice A6 n6 c6) (.slice A7 n7 c7)) := Lib.hid fun wz hz => by rw [hW] at hz; exact box8_new w _ _ _ _ _ _ _ _ hz
  have HK2 : Hid (∀ wz, Below W.heap.size W wz → wz.cell? ⟨g, o + f * 3 + 2, none⟩ = some (.slice Pc nc cc)) := Lib.hid fun wz hz => ((below_then hbw hz).cell (World.block_lt_of_cell? w _ k2)).trans k2
  have HW := Lib.hid hW
  obtain ⟨b0, b1, b2, b3, b4, b5, b6, b7⟩ := HB8.out W (Below.refl _ _)
  clear hbw hW hn0 hn1 hn2 hn3 hn4 hn5 hn6 hn7 k2 h2 q2 hs hgd hnc hty ht
  go_enter Tryd.func6, Tryd.ntmps6
  go_upto_region 1 with (fail)
  rw [← HW.out]
  go_upto_region 2 with (first | (go_at_call 11; refine (HBG.out W HBW.out).mono ?_; rintro e w1 ⟨F, x1, hF, hFv, hFm, hFe, rfl, hg1, hp1, hfr1, hb1⟩))
  clear b0 b1 b2 b3 b4 b5 b6 b7 HBG
  obtain ⟨b0, b1, b2, b3, b4, b5, b6, b7⟩ := HB8.out w1 hb1
  have k2 := HK2.out w1 hb1
  have hpe : (beginC ⟨[], []⟩ 2 [] (envC m f prof).ro) = x1.pl := by rw [hp1]; show _ = beginC ⟨[], []⟩ 2 [] F.env.ro; rw [hFe, Int.toNat_natCast]
  have HPE := Lib.hid hpe
  have HFE : Hid (F.env = envC m f prof) := Lib.hid (by rw [hFe, Int.toNat_natCast])
  have HIN : Hid (Inv 0 x1.pl) := Lib.hid (hpe ▸ Inv.first 2 _ HEN.out.ro)
  have HFM := Lib.hid hFm
  have HF := Lib.hid hF
  have HG1 := Lib.hid hg1
  have HB1 := Lib.hid (below_then HBW.out hb1)
  have HCK : Hid (∀ wz xz, WStep F w1 x1 wz xz → CodeK (wfree F wz xz) wz (.slice Pc nc cc) code) := Lib.hid fun wz xz hsz => by
    have hsw := HBW.out.size
    exact CodeK.keep HC2.out ((Keeps.below HB1.out fun _ hk => hk).trans (hsz.keeps.mono fun k hk => hfr1 k (Nat.lt_of_lt_of_le hk hsw))) fun k hk => hsz.mono k (hfr1 k (Nat.lt_of_lt_of_le hk hsw))
  have HBE : Hid (∀ wz xz, WStep F w1 x1 wz xz → Below w.heap.size w wz) := Lib.hid fun wz xz hsz => HB1.out.trans (hsz.keeps.to_below fun k hk => hfr1 k (Nat.lt_of_lt_of_le hk HBW.out.size))
  clear hb1 hpe hp1 hF hFv hFm hFe hg1 hfr1 HB8 HK2 HC2
  go_wp2_with fail
  clear b0 b1 b2 b3 b4 b5 b6 b7 k2
  go_loopw [30] (fun i wr => ∃ k : Nat, k ≤ nc ∧ i = .int .i64 (k : Int) ∧ ∃ x, Hid (Wk F wr x) ∧ Hid (WStep F w1 x1 wr x) ∧ Hid (Inv k x.pl) ∧ Hid (walkC (envC m f prof) code 0 x1.pl = walkC (envC m f prof) (code.drop k) k x.pl)) (fun i _ => nc - (intOf i).toNat)
  case atStart => exact ⟨0, Nat.zero_le _, rfl, x1, HG1, Lib.hid (WStep.refl _ _ _), HIN, Lib.hid rfl⟩
  case round =>
    obtain ⟨w0, rfl⟩ : ∃ w0, w0 = wr := ⟨_, rfl⟩
    obtain ⟨k, hk, rfl, x, HG, HST, HI, HWC⟩ := hrel
    by_cases hlt : k < nc
    · have hd : decide ((k : Int) < (nc : Int)) = true := by simp; omega
      have hd2 : decide (k < nc) = true := by simp; omega
      have hAT := HCK.out w0 x HST.out
      obtain ⟨g1, o1, c1', he1, _, _⟩ := CellsK.some_ hAT (by rw [HNC.out]; omega)
      simp only [Value.slice.injEq] at he1
      obtain ⟨rfl, -, rfl⟩ := he1
      obtain ⟨u0, k0, h0⟩ := CellsK.at_ hAT k 0 (by rw [HNC.out]; exact hlt) (by decide)
      obtain ⟨u1, k1, h1⟩ := CellsK.at_ hAT k 1 (by rw [HNC.out]; exact hlt) (by decide)
      obtain ⟨u2, k2, h2⟩ := CellsK.at_ hAT k 2 (by rw [HNC.out]; exact hlt) (by decide)
      obtain ⟨u3, k3, h3⟩ := CellsK.at_ hAT k 3 (by rw [HNC.out]; exact hlt) (by decide)
      obtain ⟨u4, k4, h4⟩ := CellsK.at_ hAT k 4 (by rw [HNC.out]; exact hlt) (by decide)
      have hwc := HWC.out.trans (walkC_at (by rw [HNC.out]; exact hlt))
      have hgi := HGD.out _ (getD_mem' code k ins0 (by rw [HNC.out]; exact hlt))
      generalize code.getD k ins0 = i at h0 h1 h2 h3 h4 hwc hgi
      obtain ⟨op, a, b, n, l⟩ := i
      obtain rfl : u0 = .int .i64 op := h0
      obtain rfl : u1 = .int .i64 a := h1
      obtain rfl : u2 = .int .i64 b := h2
      obtain ⟨rfl, _⟩ : u3 = .int .u64 n ∧ wordZ n := h3
      obtain ⟨h4, _⟩ : IntsK (wfree F w0 x) w0 u4 l ∧ fitN l.length := h4
      obtain ⟨P4, q4, rfl, _, _⟩ := h4.form
      rw [Nat.add_zero] at k0
      obtain ⟨W6, hW6⟩ : ∃ W6, W6 = w0.alloc (.cells #[.int .i64 op, .int .i64 a, .int .i64 b, .int .u64 n, .slice P4 l.length q4] 30) := ⟨_, rfl⟩
      have hg6 := HG.out.alloc (.cells #[.int .i64 op, .int .i64 a, .int .i64 b, .int .u64 n, .slice P4 l.length q4] 30)
      rw [← hW6] at hg6
      have y : ∀ j : Nat, W6.cell? ⟨w0.heap.size, j, none⟩ = (#[.int .i64 op, .int .i64 a, .int .i64 b, .int .u64 n, .slice P4 l.length q4] : Array Value)[j]? := fun j => by rw [hW6, World.cell?_alloc_new]
      have y0 := y 0
      have y1 := y 1
      have y2 := y 2
      have y3 := y 3
      have y4 := y 4
      simp only [List.getElem?_toArray, List.getElem?_cons_zero, List.getElem?_cons_succ] at y0 y1 y2 y3 y4
      have hsp := HS F W6 x k ⟨op, a, b, n, l⟩ P4 l.length q4 HF.out hg6.1 (HFM.out ▸ HSH.out) (HFE.out ▸ HEN.out) HI.out (by omega) hgi (hg6.2.ints h4)
      rw [HFE.out] at hsp
      have hin := fun (hz : (stepC (envC m f prof) x.pl ⟨op, a, b, n, l⟩).1 = 0) => HI.out.step HEN.out hz
      have HSP := Lib.hid hsp
      have HW6 := Lib.hid hW6
      have HS6 := Lib.hid (HST.out.trans hg6.2)
      have HWN := Lib.hid hwc
      have HINN := Lib.hid hin
      clear hAT h4 hgi hsp hW6 hwc hg6 y hin
      generalize stepC (envC m f prof) x.pl ⟨op, a, b, n, l⟩ = r at HSP HWN HINN
      obtain ⟨r1, r2⟩ := r
      by_cases hr : r1 = 0
      · subst hr
        have HWN2 := Lib.hid (HWN.out.trans (if_pos rfl))
        have HIN2 := Lib.hid (HINN.out rfl)
        clear HWN HINN
        go_upto_region 7 with (fail)
        rw [← HW6.out]
        go_wp2_with (go_at_call 12; refine (HSP.out).mono ?_; rintro e w3 ⟨x3, hg3, hs3, rfl, hp3⟩; have HG3 := Lib.hid hg3; have HS3 := Lib.hid (HS6.out.trans hs3); have HP3 := Lib.hid (hp3 rfl); clear hg3 hs3 hp3)
        go_roundw
        case rel => exact ⟨k + 1, by omega, by go_num, x3, HG3, HS3, Lib.hid (by rw [HP3.out]; exact HIN2.out), Lib.hid (by rw [HP3.out]; exact HWN2.out)⟩
        case measure => simp [intOf]; omega
      · have hr2 : (r1 != 0) = true := by simpa using hr
        have HWN2 := Lib.hid (HWN.out.trans (if_neg hr))
        clear HWN HINN hr
        go_upto_region 7 with (fail)
        rw [← HW6.out]
        go_wp2_with (go_at_call 12; refine (HSP.out).mono ?_; rintro e w3 ⟨x3, hg3, hs3, rfl, hp3⟩; have HS3 := Lib.hid (HS6.out.trans hs3); clear hg3 hs3 hp3)
        go_ret2
        exact ⟨by rw [HPE.out, HWN2.out]; rfl, HBE.out _ _ HS3.out⟩
    · have hd : decide ((k : Int) < (nc : Int)) = false := by simp; omega
      have hd2 : decide (k < nc) = false := by simp; omega
      obtain rfl : nc = k := by omega
      have hwc := HWC.out
      rw [← HNC.out] at hwc
      have HWN := Lib.hid (hwc.trans walkC_end)
      have HED := Lib.hid (ended_any HF.out HG.out)
      clear hwc
      by_cases h0 : x.f.length = 0
      · have hb0 : (x.f.length == 0) = true := by simpa using h0
        rw [hb0] at HED
        have HWN2 := Lib.hid (HWN.out.trans (if_neg (by show ¬ 0 < (x.f.map Fv.fr).length; rw [List.length_map]; omega)))
        clear HWN h0 hb0
        go_wp2_with (go_at_call 13; refine (HED.out).mono ?_; rintro e w3 ⟨rfl, rfl⟩)
        go_ret2
        exact ⟨by rw [HPE.out, HWN2.out]; rfl, HBE.out _ _ HST.out⟩
      · have hb0 : (x.f.length == 0) = false := by simpa using h0
        rw [hb0] at HED
        have HWN2 := Lib.hid (HWN.out.trans (if_pos (by show 0 < (x.f.map Fv.fr).length; rw [List.length_map]; omega)))
        clear HWN h0 hb0
        go_wp2_with (go_at_call 13; refine (HED.out).mono ?_; rintro e w3 ⟨rfl, rfl⟩)
        go_ret2
        exact ⟨by rw [HPE.out, HWN2.out]; rfl, HBE.out _ _ HST.out⟩
end
section
open Go.RowKit
def simpleI (i : Ins) : Prop := (restE i.op ∧ restF i.op ∧ restG i.op) ∨ i.op = 0 ∨ i.op = 11 ∨ i.op = 26
theorem simple_restE {i : Ins} (h : simpleI i) : restE i.op := by
  rcases h with h | h | h | h
  · exact h.1
  · rw [h]; unfold restE; decide
  · rw [h]; unfold restE; decide
  · rw [h]; unfold restE; decide
theorem steps_simple : StepsOk simpleI := by
  intro F w x n i Al nl cl hF hg hs he hi hn hgood hints
  obtain ⟨op, a, b, c, l⟩ := i
  have hop := simple_restE hgood
  refine step_of hF hg op a b c l Al nl cl (fun _ w1 g1 => exists_rest hF g1 op a b c l hop Al nl cl) fun hin _ w1 g1 => ?_
  have h0 : 0 < x.pl.f.length := inPlaceC_pos hin
  obtain ⟨t1, t2, t3⟩ := hi.top h0
  rw [Ws.pl_top] at t1 t2 t3
  have h1 : 0 < x.f.length := by have := h0; rw [Ws.pl_f, List.length_map] at this; exact this
  have h2 : x.s.length ≤ 900000 := by have := hi.sl; rw [Ws.pl_s] at this; omega
  have h3 : x.top.h ≤ x.s.length := t1
  have h4 : x.top.rs.length ≤ 100000 := Nat.le_trans t3 (by decide)
  rcases hgood with h | h | h | h
  · exact follow_rest hF g1 h1 h2 h3 op a b c l h.2.1 h.2.2 Al nl cl
  · obtain rfl : op = 0 := h
    exact follow_0 hF g1 h1 h2 h3 a b c l Al nl cl
  · obtain rfl : op = 11 := h
    exact follow_11 hF g1 h1 h2 h3 h4 a b c l Al nl cl
  · obtain rfl : op = 26 := h
    exact follow_26 hF g1 h1 h2 a b c l Al nl cl
end
section
open Go.RowKit
abbrev CntPost (l : List Nat) (w : World) (e : Ending) (w' : World) : Prop := ValPost (.int .i64 (cntI l)) w e w'
theorem bytes_drop {w : World} {g o : Nat} {l : List Nat} (h : Bytes w (some ⟨g, o, none⟩) l) (c : Nat) (hc : c ≤ l.length) : Bytes w (some ⟨g, o + c, none⟩) (l.drop c) := by
  have h2 := h.part c (l.length - c) (by omega) (some ⟨g, o + c, none⟩) (fun g' o' _ he => by simp only [Option.some.injEq, Addr.mk.injEq] at he; obtain ⟨rfl, rfl, _⟩ := he; rfl)
  rwa [List.take_of_length_le (by rw [List.length_drop]; exact Nat.le_refl _)] at h2
set_option maxRecDepth 10000 in
set_option maxHeartbeats 1000000 in
theorem count_any (A : Option Addr) (n cap : Nat) (l : List Nat) (hl : l.length = n) (hcap : n ≤ cap) (hn : n ≤ 1000000) (w : World) (htab : Tab w) (hb : Bytes w A l) :
    Calls Tryd.prog 87 #[.slice A n cap] w (CntPost l w) := by
  have HL := Lib.hid hl
  have HB := Lib.hid hb
  have HTAB := Lib.hid htab
  clear hl hb htab
  go_enter Tryd.func87, Tryd.ntmps87
  go_wp2
  go_loopw [0, 3] (fun s v wr => ∃ (A' : Option Addr) (r : List Nat) (p cp m : Nat), s = .slice A' p cp ∧ v = .int .i64 (m : Int) ∧ Hid (r.length = p) ∧ p ≤ cp ∧ m + p ≤ n ∧ Hid (Bytes wr A' r) ∧ Below w.heap.size w wr ∧ Hid (joinI m (charsB r) = cntI l)) (fun s _ _ => match s with | .slice _ p _ => p | _ => 0)
  case atStart => exact ⟨A, l, n, cap, 0, rfl, rfl, HL, hcap, by omega, HB, Below.refl _ _, Lib.hid rfl⟩
  case round =>
    obtain ⟨wo, rfl⟩ : ∃ wo : World, wo = wr := ⟨_, rfl⟩
    obtain ⟨A', r, p, cp, m, rfl, rfl, hr, hcp, hmp, hby, hnx, hj⟩ := hrel
    by_cases hp : 0 < p
    · have hsz := size_any A' p cp r hr.out hp hcp wo (HTAB.out.below hnx) hby.out
      obtain ⟨g, o, rfl, _, _⟩ := hby.out.2 (by rw [hr.out]; exact hp)
      have hle := (charB_le r).1
      rw [hr.out] at hle
      have hbad := joinI_bad (l := r) (by rw [hr.out]; exact hp)
      have hstep := joinI_step (l := r) (by rw [hr.out]; exact hp)
      have hdr := bytes_drop hby.out (charB r) (by rw [hr.out]; exact hle)
      have hdl : (r.drop (charB r)).length = p - charB r := by rw [List.length_drop, hr.out]
      generalize charB r = c at hsz hle hbad hstep hdr hdl
      have HSZ := Lib.hid hsz
      have HDR := Lib.hid hdr
      have HDL := Lib.hid hdl
      clear hsz hdr hdl
      by_cases hc : c = 0
      · have HE := Lib.hid (hbad hc m)
        clear hbad hstep
        subst hc
        go_wp2_with (go_at_call 92; refine HSZ.out.mono ?_; rintro e w' ⟨rfl, hb⟩; replace hnx := below_then hnx hb; clear hb)
        go_ret
        exact ⟨ret_int (by rw [← hj.out, HE.out]), hnx⟩
      · have HE := Lib.hid (hstep hc m)
        clear hbad hstep
        have hc0 : ((c : Int) == 0) = false := by simp; omega
        by_cases hcc : cp = c
        · have hpc : p = c := by omega
          have hnil : r.drop c = [] := List.eq_nil_of_length_eq_zero (by rw [HDL.out]; omega)
          have HNIL := Lib.hid hnil
          clear hnil
          subst hcc hpc
          go_wp2_with (go_at_call 92; refine HSZ.out.mono ?_; rintro e w' ⟨rfl, hb⟩; replace hnx := below_then hnx hb; have HB2 := Lib.hid (HDR.out.below hb); clear hb)
          go_roundw
          case rel => exact ⟨some ⟨g, o, none⟩, [], 0, 0, m + 1, by simp, by go_num, Lib.hid rfl, by omega, by omega, Lib.hid (Bytes.nil _ _), hnx, Lib.hid (by rw [← hj.out, HE.out, HNIL.out])⟩
          case measure => simp; omega
        · have hcc2 : (cp : Int) ≠ c := by omega
          go_wp2_with (go_at_call 92; refine HSZ.out.mono ?_; rintro e w' ⟨rfl, hb⟩; replace hnx := below_then hnx hb; have HB2 := Lib.hid (HDR.out.below hb); clear hb)
          go_roundw
          case rel => exact ⟨some ⟨g, o + c, none⟩, r.drop c, p - c, cp - c, m + 1, by simp, by go_num, HDL, by omega, by omega, HB2, hnx, Lib.hid (by rw [← hj.out, HE.out])⟩
          case measure => simp; omega
    · obtain rfl : p = 0 := by omega
      obtain rfl : r = [] := List.eq_nil_of_length_eq_zero hr.out
      have HE := Lib.hid (joinI_end m)
      go_wp2
      go_ret
      exact ⟨ret_int (by rw [← hj.out, HE.out]), hnx⟩
theorem right_any (A : Option Addr) (n cap : Nat) (l : List Nat) (hl : l.length = n) (hcap : n ≤ cap) (hn : n ≤ 1000000) (w : World) (htab : Tab w) (hb : Bytes w A l) :
    Calls Tryd.prog 79 #[.slice A n cap] w (BoolPost (decide (0 ≤ cntI l)) w) := by
  have h := count_any A n cap l hl hcap hn w htab hb
  unfold CntPost at h
  generalize cntI l = z at h ⊢
  have H := Lib.hid h
  clear h
  go_enter Tryd.func79, Tryd.ntmps79
  go_wp2_with (go_at_call 87; refine H.out.mono ?_; rintro e w' ⟨rfl, hb⟩)
  go_ret
  exact ⟨rfl, hb⟩
end
section
open Go.RowKit
theorem below_bytes (w : World) (e : TypeId) (s : ByteArray) : Below w.heap.size w (Lib.bytesWorld w e s) := by
  unfold Lib.bytesWorld
  refine Lib.below_freeze ((below_drewN (Below.refl _ _) 1).alloc ?_ _) (p := ⟨w.heap.size, _, none⟩) (Nat.le_refl _) 1
  exact Nat.le_refl _
theorem bytes_conv (w : World) (s : ByteArray) : Bytes (Lib.bytesWorld w 5 s) (some ⟨w.heap.size, 0, none⟩) (nums s) := by
  refine ⟨nums_lt s, fun h => ⟨w.heap.size, 0, rfl, by rw [Lib.bytesWorld_size]; omega, fun j hj => ?_⟩⟩
  rw [nums_length] at hj
  rw [Nat.zero_add, Lib.bytesWorld_cell w _ s j hj]
  congr 2
  unfold nums
  rw [Lib.size_eq, Array.length_toList] at hj
  cases h2 : s.data[j]? with
  | none => rw [Array.getElem?_eq_none_iff] at h2; omega
  | some b => simp [List.getD, h2]
theorem conv_any (w : World) (s : ByteArray) : (convert 9 84 (.string s)).run Tryd.prog w = .ok (.slice (some ⟨w.heap.size, 0, none⟩) s.size (grownCap w s.size 0 5)) (Lib.bytesWorld w 5 s) :=
  Lib.run_convert_string_bytes w 9 84 5 s Tryd.underlying9 Tryd.underlying84 Tryd.underlying5
end
end Go.Proofs.YteohmkceapblkaaDoor
