/-
  ModuleSigs' walk.
-/
import Derived.Test.YtinljaobdnkifaaDoorJR
import Derived.Test.YtinljaobdnkifaaDoorJK
namespace Go.Proofs.YtinljaobdnkifaaDoor
open Go.RowKit

/-- What a made module's walk wants: its slices, short lists. -/
theorem made_short {m : Mdl} (h : MadeM m) : Short m := by
  refine ⟨by rw [h.types]; decide, by rw [h.imps]; decide, by have := h.funs.1.2; omega, fun t ht => ?_, fun f hf => by have := (h.funs.2 f hf).2.2.1; omega⟩
  rw [h.types] at ht
  exact (show ∀ t ∈ nineL, t.1.length ≤ 100000 ∧ t.2.length ≤ 100000 by decide) t ht
theorem sigs_slices {w : World} {v : Mv} {m : Mdl} (h : ModAt (fun k => k < w.heap.size) w v m) (hm : MadeM m) : ∃ g0 o0 c0 g1 o1 c1 g2 o2 c2 A3 c3 A4 c4 A5 c5 A6 c6 A7 c7, v = ⟨.slice (some ⟨g0, o0, none⟩) m.types.length c0, .slice (some ⟨g1, o1, none⟩) m.imps.length c1, .slice (some ⟨g2, o2, none⟩) m.funs.length c2, .slice A3 m.mems.length c3, .slice A4 m.globs.length c4, .slice A5 m.exps.length c5, .slice A6 m.datas.length c6, .slice A7 m.cus.length c7⟩ := by
  obtain ⟨A0, c0, A1, c1, A2, c2, A3, c3, A4, c4, A5, c5, A6, c6, A7, c7, rfl⟩ := mod_slices h
  obtain ⟨g0, o0, q0, h0, _, _⟩ := CellsK.some_ h.types (by rw [hm.types]; decide)
  obtain ⟨g1, o1, q1, h1, _, _⟩ := CellsK.some_ h.imps (by rw [hm.imps]; decide)
  obtain ⟨g2, o2, q2, h2, _, _⟩ := CellsK.some_ h.funs hm.funs.1.1
  simp only [Value.slice.injEq] at h0 h1 h2
  obtain ⟨rfl, -, rfl⟩ := h0
  obtain ⟨rfl, -, rfl⟩ := h1
  obtain ⟨rfl, -, rfl⟩ := h2
  exact ⟨g0, o0, c0, g1, o1, c1, g2, o2, c2, A3, c3, A4, c4, A5, c5, A6, c6, A7, c7, rfl⟩
/-- The type at k: its two slices in the row. -/
structure TypAt (w wz : World) (g0 o0 k : Nat) (t : List Int × List Int) (Ap : Option Addr) (cp : Nat) (Ar : Option Addr) (cr : Nat) : Prop where
  c0 : wz.cell? ⟨g0, o0 + k * 2, none⟩ = some (.slice Ap t.1.length cp)
  c1 : wz.cell? ⟨g0, o0 + k * 2 + 1, none⟩ = some (.slice Ar t.2.length cr)
  p : IntsK (fun k => k < w.heap.size) wz (.slice Ap t.1.length cp) t.1
  r : IntsK (fun k => k < w.heap.size) wz (.slice Ar t.2.length cr) t.2
theorem TypAt.below {w wz wy : World} {g0 o0 k : Nat} {t : List Int × List Int} {Ap : Option Addr} {cp : Nat} {Ar : Option Addr} {cr : Nat} (h : TypAt w wz g0 o0 k t Ap cp Ar cr) (hw : w.heap.size ≤ wz.heap.size) (hb : Below wz.heap.size wz wy) : TypAt w wy g0 o0 k t Ap cp Ar cr :=
  ⟨(hb.cell (p := ⟨g0, o0 + k * 2, none⟩) (World.block_lt_of_cell? _ _ h.c0)).trans h.c0, (hb.cell (p := ⟨g0, o0 + k * 2 + 1, none⟩) (World.block_lt_of_cell? _ _ h.c1)).trans h.c1, h.p.keep (Keeps.below hb fun _ hk => Nat.lt_of_lt_of_le hk hw) (fun _ hk => hk), h.r.keep (Keeps.below hb fun _ hk => Nat.lt_of_lt_of_le hk hw) (fun _ hk => hk)⟩
theorem typAt_of {w : World} {g0 o0 n c0 : Nat} {ts : List (List Int × List Int)} (h : TypesK (fun k => k < w.heap.size) w (.slice (some ⟨g0, o0, none⟩) n c0) ts) (k : Nat) (hk : k < ts.length) : ∃ Ap cp Ar cr, TypAt w w g0 o0 k (ts.getD k ([], [])) Ap cp Ar cr := by
  obtain ⟨p, r, hp, hr, hip, hir⟩ := TypesK.at_ h k hk
  obtain ⟨Ap, cp, rfl, _, _⟩ := hip.form
  obtain ⟨Ar, cr, rfl, _, _⟩ := hir.form
  exact ⟨Ap, cp, Ar, cr, hp, hr, hip, hir⟩
/-- The two lists of a type are the same. -/
theorem types_same {w wz : World} {g0 o0 k : Nat} {t : List Int × List Int} {Ap Ar P1 P2 : Option Addr} {cp cr e1 e2 : Nat} (h : TypAt w wz g0 o0 k t Ap cp Ar cr) (hw : w.heap.size ≤ wz.heap.size) (h1 : IntsK (fun k => k < wz.heap.size) wz (.slice P1 t.1.length e1) t.1) (h2 : IntsK (fun k => k < wz.heap.size) wz (.slice P2 t.2.length e2) t.2) :
    Calls Tryd.prog 6 #[.agg #[.slice P1 t.1.length e1, .slice P2 t.2.length e2], .agg #[.slice Ap t.1.length cp, .slice Ar t.2.length cr]] wz (BoolPost true wz) := by
  have h3 := rtypes_is wz _ _ _ _ t.1 t.2 t.1 t.2 h1 h2 (h.p.keep (Keeps.refl _ _) fun _ hk => Nat.lt_of_lt_of_le hk hw) (h.r.keep (Keeps.refl _ _) fun _ hk => Nat.lt_of_lt_of_le hk hw)
  rw [decide_eq_true (⟨rfl, rfl⟩ : t.1 = t.1 ∧ t.2 = t.2)] at h3
  exact h3
/-- A part of a row of ints. -/
theorem IntsK.front {K : Nat → Prop} {w : World} {A : Option Addr} {n c : Nat} {a b : List Int} (h : IntsK K w (.slice A n c) (a ++ b)) : IntsK K w (.slice A a.length c) a := by
  obtain ⟨A', c', he, h1, hn, h3⟩ := h
  simp only [Value.slice.injEq] at he
  obtain ⟨rfl, -, rfl⟩ := he
  rw [List.length_append] at h1
  refine ⟨A, c, rfl, by omega, hn, fun h0 => ?_⟩
  obtain ⟨g, o, rfl, hg, hc⟩ := h3 (by rw [List.length_append]; omega)
  refine ⟨g, o, rfl, hg, fun j hj => ?_⟩
  rw [hc j (by rw [List.length_append]; omega)]
  rw [List.getD_eq_getElem?_getD, List.getD_eq_getElem?_getD, List.getElem?_append_left hj]
theorem IntsK.back {K : Nat → Prop} {w : World} {g o n c q : Nat} {a b : List Int} (h : IntsK K w (.slice (some ⟨g, o, none⟩) n c) (a ++ b)) (hq : a.length = q) : IntsK K w (.slice (some ⟨g, o + q, none⟩) b.length (c - q)) b := by
  subst hq
  obtain ⟨A', c', he, h1, hn, h3⟩ := h
  simp only [Value.slice.injEq] at he
  obtain ⟨rfl, -, rfl⟩ := he
  rw [List.length_append] at h1
  refine ⟨_, _, rfl, by omega, (fun h => by cases h), fun h0 => ?_⟩
  obtain ⟨g', o', he, hg, hc⟩ := h3 (by rw [List.length_append]; omega)
  simp only [Option.some.injEq, Addr.mk.injEq] at he
  obtain ⟨rfl, rfl, _⟩ := he
  refine ⟨_, _, rfl, hg, fun j hj => ?_⟩
  have h9 := hc (a.length + j) (by rw [List.length_append]; omega)
  rw [show o + a.length + j = o + (a.length + j) by omega, h9]
  rw [List.getD_eq_getElem?_getD, List.getD_eq_getElem?_getD, List.getElem?_append_right (by omega), Nat.add_sub_cancel_left]
theorem same_ints {w : World} {v1 v2 : Value} {l : List Int} {K : Nat → Prop} (h1 : IntsK K w v1 l) (h2 : IntsK K w v2 l) : Calls Tryd.prog 8 #[v1, v2] w (BoolPost true w) := by
  have h := bsame_is K w v1 v2 l l h1 h2
  rw [decide_eq_true rfl] at h
  exact h
set_option maxRecDepth 100000 in
set_option maxHeartbeats 40000000 in
theorem sigs_walk (w : World) (ht : Tab w) (tv : Value) (tl : List Int) (htl : IntsK (fun k => k < w.heap.size) w tv tl) : Calls Tryd.prog 3 #[tv] w (BoolPost true w) := by
  have HM := Lib.hid (module_any w tv tl htl)
  have HT := Lib.hid (fun wz (hb : Below w.heap.size w wz) => known6_any wz (ht.below hb))
  obtain ⟨At, ct, htv, _, _⟩ := htl.form
  clear htl ht
  rw [htv] at HM ⊢
  clear htv
  generalize tl.length = ntl at *
  go_enter Tryd.func3, Tryd.ntmps3
  go_wp2_with fail
  go_at_call 4
  refine HM.out.mono ?_
  rintro e w1 ⟨v, m, rfl, hmm, hma, hb1⟩
  have HSG := Lib.hid (fun wz (hb : Below w1.heap.size w1 wz) f hf => sig_any wz v m (hma.keep (Keeps.below hb fun _ hk => hk) fun _ hk => Nat.lt_of_lt_of_le hk hb.size) (made_short hmm) f hf)
  have HLO := Lib.hid (fun wz (hb : Below w1.heap.size w1 wz) f hf => locals_any wz v m (hma.keep (Keeps.below hb fun _ hk => hk) fun _ hk => Nat.lt_of_lt_of_le hk hb.size) (made_short hmm) f hf)
  have HBL := Lib.hid (fun wz (hb : Below w1.heap.size w1 wz) a => block_any6 wz v m (hma.keep (Keeps.below hb fun _ hk => hk) fun _ hk => Nat.lt_of_lt_of_le hk hb.size) (made_short hmm) a)
  have h0 := hma.types
  have h1 := hma.imps
  have h2 := hma.funs
  obtain ⟨g0, o0, c0, g1, o1, c1, g2, o2, c2, A3, c3, A4, c4, A5, c5, A6, c6, A7, c7, rfl⟩ := sigs_slices hma hmm
  simp only at h0 h1 h2
  simp only [Mv.cells] at HSG HLO HBL ⊢
  have htl9 : m.types.length = 9 := by rw [hmm.types]; rfl
  have hil2 : m.imps.length = 2 := by rw [hmm.imps]; rfl
  have HIM := Lib.hid (fun (f : Nat) (hf : f < m.imps.length) => (show ∃ (k : Nat) (t : List Int × List Int) (Ap : Option Addr) (cp : Nat) (Ar : Option Addr) (cr : Nat), k < m.types.length ∧ fsigB m (f : Int) = some t ∧ locB m (f : Int) = [] ∧ w1.cell? ⟨g1, o1 + f * 3 + 2, none⟩ = some (.int .i64 (k : Int)) ∧ TypAt w1 w1 g0 o0 k t Ap cp Ar cr from by
    obtain ⟨k, hk, hk9⟩ : ∃ k : Nat, (m.imps.getD f (ByteArray.empty, ByteArray.empty, 0)).2.2 = (k : Int) ∧ k < 9 := by
      rw [hmm.imps]
      rcases (show f = 0 ∨ f = 1 by omega) with rfl | rfl
      · exact ⟨1, rfl, by decide⟩
      · exact ⟨7, rfl, by decide⟩
    obtain ⟨u, ku, hu⟩ := CellsK.at_ h1 f 2 hf (by decide)
    obtain rfl : u = .int .i64 (m.imps.getD f (ByteArray.empty, ByteArray.empty, 0)).2.2 := hu
    rw [hk] at ku
    obtain ⟨Ap, cp, Ar, cr, hT⟩ := typAt_of h0 k (by omega)
    have hs : fsigB m (f : Int) = some (m.types.getD k ([], [])) := by rw [fsigB_imp hf, hk, typeB_some (by omega)]
    exact ⟨k, _, Ap, cp, Ar, cr, by omega, hs, locB_imp hs (by omega), ku, hT⟩))
  have HFU := Lib.hid (fun (d : Nat) (hd : d < m.funs.length) => (show ∃ (k : Nat) (t : List Int × List Int) (Ap : Option Addr) (cp : Nat) (Ar : Option Addr) (cr : Nat) (lo : List Int) (Al : Option Addr) (cl : Nat), k < m.types.length ∧ fsigB m ((m.imps.length + d : Nat) : Int) = some t ∧ locB m ((m.imps.length + d : Nat) : Int) = t.1 ++ lo ∧ w1.cell? ⟨g2, o2 + d * 3, none⟩ = some (.int .i64 (k : Int)) ∧ w1.cell? ⟨g2, o2 + d * 3 + 1, none⟩ = some (.slice Al lo.length cl) ∧ IntsK (fun k => k < w1.heap.size) w1 (.slice Al lo.length cl) lo ∧ lo.length ≤ 3 ∧ t.1.length ≤ 100000 ∧ TypAt w1 w1 g0 o0 k t Ap cp Ar cr from by
    have hfo := hmm.funs.2 _ (getD_mem' m.funs d fnc0 hd)
    obtain ⟨k, hk⟩ : ∃ k : Nat, (m.funs.getD d fnc0).ty = (k : Int) := ⟨(m.funs.getD d fnc0).ty.toNat, by have := hfo.1; omega⟩
    have hk9 : k < 9 := by have := hfo.2.1; omega
    obtain ⟨u, ku, hu⟩ := CellsK.at_ h2 d 0 hd (by decide)
    obtain rfl : u = .int .i64 (m.funs.getD d fnc0).ty := hu
    rw [hk, Nat.add_zero] at ku
    obtain ⟨u1, ku1, hu1⟩ := CellsK.at_ h2 d 1 hd (by decide)
    have hul : IntsK (fun k => k < w1.heap.size) w1 u1 (m.funs.getD d fnc0).loc := hu1
    obtain ⟨Al, cl, rfl, _, _⟩ := hul.form
    obtain ⟨Ap, cp, Ar, cr, hT⟩ := typAt_of h0 k (by omega)
    have hs : fsigB m ((m.imps.length + d : Nat) : Int) = some (m.types.getD k ([], [])) := by rw [fsigB_fun hd, hk, typeB_some (by omega)]
    exact ⟨k, _, Ap, cp, Ar, cr, _, Al, cl, by omega, hs, locB_fun hs, ku, ku1, hul, hfo.2.2.1, ((made_short hmm).2.2.2.1 _ (getD_mem' m.types k ([], []) (by omega))).1, hT⟩))
  have HTY := Lib.hid (fun (a : Nat) (ha : a < m.types.length) => (show ∃ (t : List Int × List Int) (Ap : Option Addr) (cp : Nat) (Ar : Option Addr) (cr : Nat), blockB m (a : Int) = some t ∧ TypAt w1 w1 g0 o0 a t Ap cp Ar cr from by
    obtain ⟨Ap, cp, Ar, cr, hT⟩ := typAt_of h0 a ha
    exact ⟨_, Ap, cp, Ar, cr, by unfold blockB; rw [if_neg (by omega), if_neg (by omega), if_neg (by omega), if_neg (by omega), typeB_some ha], hT⟩))
  have HSN := Lib.hid (show fsigB m ((m.imps.length : Int) + (m.funs.length : Int)) = none from fsigB_none (.inr (Int.le_refl _)))
  have HBN := Lib.hid (show blockB m (m.types.length : Int) = none from by unfold blockB; rw [if_neg (by omega), if_neg (by omega), if_neg (by omega), if_neg (by omega)]; exact typeB_none (.inr (Int.le_refl _)))
  have hf4 := hmm.funs.1.2
  clear h0 h1 h2 hma hmm HM
  obtain ⟨n0, hn0⟩ : ∃ n, m.types.length = n := ⟨_, rfl⟩
  obtain ⟨n1, hn1⟩ : ∃ n, m.imps.length = n := ⟨_, rfl⟩
  obtain ⟨n2, hn2⟩ : ∃ n, m.funs.length = n := ⟨_, rfl⟩
  obtain ⟨n3, hn3⟩ : ∃ n, m.mems.length = n := ⟨_, rfl⟩
  obtain ⟨n4, hn4⟩ : ∃ n, m.globs.length = n := ⟨_, rfl⟩
  obtain ⟨n5, hn5⟩ : ∃ n, m.exps.length = n := ⟨_, rfl⟩
  obtain ⟨n6, hn6⟩ : ∃ n, m.datas.length = n := ⟨_, rfl⟩
  obtain ⟨n7, hn7⟩ : ∃ n, m.cus.length = n := ⟨_, rfl⟩
  rw [hn0] at htl9 HSG HLO HBL HIM HFU HTY HBN ⊢
  rw [hn1] at hil2 HSG HLO HBL HIM HFU HSN ⊢
  rw [hn2] at hf4 HSG HLO HBL HFU HSN ⊢
  rw [hn3] at HSG HLO HBL ⊢
  rw [hn4] at HSG HLO HBL ⊢
  rw [hn5] at HSG HLO HBL ⊢
  rw [hn6] at HSG HLO HBL ⊢
  rw [hn7] at HSG HLO HBL ⊢
  have hil : n1 ≤ 2 := by omega
  have hnt : n0 ≤ 9 := by omega
  clear htl9 hil2
  clear hn0 hn1 hn2 hn3 hn4 hn5 hn6 hn7
  obtain ⟨M, hM⟩ : ∃ M, M = w1.heap.size := ⟨_, rfl⟩
  have HB1 := Lib.hid (below_new hb1 (.cells #[.slice (some ⟨g0, o0, none⟩) n0 c0, .slice (some ⟨g1, o1, none⟩) n1 c1, .slice (some ⟨g2, o2, none⟩) n2 c2, .slice A3 n3 c3, .slice A4 n4 c4, .slice A5 n5 c5, .slice A6 n6 c6, .slice A7 n7 c7] 32))
  have HB12 := Lib.hid ((Below.refl w1.heap.size w1).alloc (Nat.le_refl _) (.cells #[.slice (some ⟨g0, o0, none⟩) n0 c0, .slice (some ⟨g1, o1, none⟩) n1 c1, .slice (some ⟨g2, o2, none⟩) n2 c2, .slice A3 n3 c3, .slice A4 n4 c4, .slice A5 n5 c5, .slice A6 n6 c6, .slice A7 n7 c7] 32))
  have HBX := Lib.hid (fun wz hb => box8_new w1 (.slice (some ⟨g0, o0, none⟩) n0 c0) (.slice (some ⟨g1, o1, none⟩) n1 c1) (.slice (some ⟨g2, o2, none⟩) n2 c2) (.slice A3 n3 c3) (.slice A4 n4 c4) (.slice A5 n5 c5) (.slice A6 n6 c6) (.slice A7 n7 c7) (wz := wz) hb)
  rw [← hM] at HBX
  clear hb1
  go_wp2_with fail
  rw [← hM]
  clear hM
  generalize w1.alloc (.cells #[.slice (some ⟨g0, o0, none⟩) n0 c0, .slice (some ⟨g1, o1, none⟩) n1 c1, .slice (some ⟨g2, o2, none⟩) n2 c2, .slice A3 n3 c3, .slice A4 n4 c4, .slice A5 n5 c5, .slice A6 n6 c6, .slice A7 n7 c7] 32) = w2 at HB1 HB12 HBX ⊢
  obtain ⟨b0, b1, b2, b3, b4, b5, b6, b7⟩ := HBX.out w2 (Below.refl _ _)
  have hb0' := b0
  go_wp2_with fail
  go_loopw [23] (fun i wr => ∃ j : Nat, j ≤ n1 ∧ i = .int .i64 (j : Int) ∧ Hid (Below w2.heap.size w2 wr)) (fun i _ => n1 - (intOf i).toNat)
  case atStart => exact ⟨0, Nat.zero_le _, rfl, Lib.hid (Below.refl _ _)⟩
  case round =>
    obtain ⟨j, hj, rfl, HB⟩ := hrel
    obtain ⟨w3, rfl⟩ : ∃ w3, w3 = wr := ⟨_, rfl⟩
    have HB13 := Lib.hid (below_then HB12.out HB.out)
    obtain ⟨b0, b1, b2, b3, b4, b5, b6, b7⟩ := HBX.out w3 HB.out
    by_cases hlt : j < n1
    · have hd0 : decide ((j : Int) < (n1 : Int)) = true := by simp; omega
      obtain ⟨k, t, Ap, cp, Ar, cr, hkn, hsig, hloc, kk, hty⟩ := HIM.out j hlt
      have HQ := Lib.hid (HSG.out w3 HB13.out (j : Int) (by omega))
      rw [hsig] at HQ
      have HLQ := Lib.hid (fun wz (hb : Below w1.heap.size w1 wz) => HLO.out wz hb (j : Int) (by omega))
      rw [hloc] at HLQ
      clear hsig hloc
      have HTA := Lib.hid hty
      have HKK := Lib.hid kk
      clear hty kk
      go_wp2_with fail
      go_at_call 5
      refine HQ.out.mono ?_
      rintro e w4 ⟨p', r', rfl, hi1, hi2, hb4⟩
      obtain ⟨P1, e1, hq1', _, _⟩ := hi1.form
      obtain ⟨P2, e2, hq2', _, _⟩ := hi2.form
      rw [hq1'] at hi1 ⊢
      rw [hq2'] at hi2 ⊢
      simp only [Option.getD_some, Option.isSome_some] at hi1 hi2 ⊢
      have HI1 := Lib.hid (hi1.keep (K' := fun k => k < w4.heap.size) (Keeps.refl _ _) fun k hk => hk.elim False.elim fun h => h.2)
      have HI2 := Lib.hid (hi2.keep (K' := fun k => k < w4.heap.size) (Keeps.refl _ _) fun k hk => hk.elim False.elim fun h => h.2)
      have HB34 := Lib.hid hb4
      clear hi1 hi2 hb4 hq1' hq2'
      clear b0 b1 b2 b3 b4 b5 b6 b7 HQ
      have HB5 := Lib.hid (below_new (below_then HB.out HB34.out) (.cells #[.slice P1 t.1.length e1, .slice P2 t.2.length e2] 35))
      obtain ⟨W, hW⟩ : ∃ W, W = w4.alloc (.cells #[.slice P1 t.1.length e1, .slice P2 t.2.length e2] 35) := ⟨_, rfl⟩
      have hbw : Below w4.heap.size w4 W := by rw [hW]; exact (Below.refl _ _).alloc (Nat.le_refl _) _
      have hv : ∀ i, W.cell? ⟨w4.heap.size, i, none⟩ = (#[.slice P1 t.1.length e1, .slice P2 t.2.length e2] : Array Value)[i]? := fun i => by rw [hW]; exact World.cell?_alloc_new w4 _ _ i
      have hv0 := hv 0
      have hv1 := hv 1
      simp only [List.getElem?_toArray, List.getElem?_cons_zero, List.getElem?_cons_succ] at hv0 hv1
      rw [← hW] at HB5
      have HB1W := Lib.hid (below_then HB13.out (below_then HB34.out hbw))
      have hb1d : Below w1.heap.size w1 W.drew := HB1W.out.drew
      have HF : Hid (∀ wz, Below W.drew.heap.size W.drew wz → (fun w' => w'.cell? ⟨M, 0, none⟩ = some (.slice (some ⟨g0, o0, none⟩) n0 c0) ∧ w'.cell? ⟨M, 1, none⟩ = some (.slice (some ⟨g1, o1, none⟩) n1 c1) ∧ w'.cell? ⟨M, 2, none⟩ = some (.slice (some ⟨g2, o2, none⟩) n2 c2) ∧ w'.cell? ⟨M, 3, none⟩ = some (.slice A3 n3 c3) ∧ w'.cell? ⟨M, 4, none⟩ = some (.slice A4 n4 c4) ∧ w'.cell? ⟨M, 5, none⟩ = some (.slice A5 n5 c5) ∧ w'.cell? ⟨M, 6, none⟩ = some (.slice A6 n6 c6) ∧ w'.cell? ⟨M, 7, none⟩ = some (.slice A7 n7 c7) ∧ w'.cell? ⟨w4.heap.size, 0, none⟩ = some (.slice P1 t.1.length e1) ∧ w'.cell? ⟨w4.heap.size, 1, none⟩ = some (.slice P2 t.2.length e2) ∧ w'.cell? ⟨g1, o1 + j * 3 + 2, none⟩ = some (.int .i64 (k : Int)) ∧ w'.cell? ⟨g0, o0 + k * 2, none⟩ = some (.slice Ap t.1.length cp) ∧ w'.cell? ⟨g0, o0 + k * 2 + 1, none⟩ = some (.slice Ar t.2.length cr)) wz) := Lib.hid fun wz hb => by
        obtain ⟨b0, b1, b2, b3, b4, b5, b6, b7⟩ := HBX.out wz (below_then (below_then HB.out (below_then HB34.out hbw)).drew hb)
        have hty := HTA.out.below (Nat.le_refl _) (below_then hb1d hb)
        exact ⟨b0, b1, b2, b3, b4, b5, b6, b7, (hb.cell (p := ⟨w4.heap.size, 0, none⟩) (World.block_lt_of_cell? _ _ hv0)).trans hv0, (hb.cell (p := ⟨w4.heap.size, 1, none⟩) (World.block_lt_of_cell? _ _ hv1)).trans hv1, ((below_then hb1d hb).cell (p := ⟨g1, o1 + j * 3 + 2, none⟩) (World.block_lt_of_cell? _ _ HKK.out)).trans HKK.out, hty.c0, hty.c1⟩
      have HTS := Lib.hid (types_same (HTA.out.below (Nat.le_refl _) hb1d) hb1d.size (HI1.out.keep (Keeps.below hbw.drew fun _ hk => hk) fun _ hk => Nat.lt_of_lt_of_le hk hbw.drew.size) (HI2.out.keep (Keeps.below hbw.drew fun _ hk => hk) fun _ hk => Nat.lt_of_lt_of_le hk hbw.drew.size))
      have HL2 := Lib.hid (fun wz (hb : Below W.drew.heap.size W.drew wz) => HLQ.out wz (below_then hb1d hb))
      have hk1 : (0 : Int) ≤ (k : Int) ∧ (k : Int) < (n0 : Int) := by omega
      have hj1 : (0 : Int) ≤ (j : Int) ∧ (j : Int) < (n1 : Int) := by omega
      have HBW := Lib.hid (HB5.out.drew)
      clear hb1d hv0 hv1 hv hbw HKK HTA HLQ HB5
      go_upto_region 6 with (fail)
      rw [← hW]
      clear hW
      go_region_held3 (fun w' => w'.cell? ⟨M, 0, none⟩ = some (.slice (some ⟨g0, o0, none⟩) n0 c0) ∧ w'.cell? ⟨M, 1, none⟩ = some (.slice (some ⟨g1, o1, none⟩) n1 c1) ∧ w'.cell? ⟨M, 2, none⟩ = some (.slice (some ⟨g2, o2, none⟩) n2 c2) ∧ w'.cell? ⟨M, 3, none⟩ = some (.slice A3 n3 c3) ∧ w'.cell? ⟨M, 4, none⟩ = some (.slice A4 n4 c4) ∧ w'.cell? ⟨M, 5, none⟩ = some (.slice A5 n5 c5) ∧ w'.cell? ⟨M, 6, none⟩ = some (.slice A6 n6 c6) ∧ w'.cell? ⟨M, 7, none⟩ = some (.slice A7 n7 c7) ∧ w'.cell? ⟨w4.heap.size, 0, none⟩ = some (.slice P1 t.1.length e1) ∧ w'.cell? ⟨w4.heap.size, 1, none⟩ = some (.slice P2 t.2.length e2) ∧ w'.cell? ⟨g1, o1 + j * 3 + 2, none⟩ = some (.int .i64 (k : Int)) ∧ w'.cell? ⟨g0, o0 + k * 2, none⟩ = some (.slice Ap t.1.length cp) ∧ w'.cell? ⟨g0, o0 + k * 2 + 1, none⟩ = some (.slice Ar t.2.length cr))
        (first | exact HF.out _ (Below.refl _ _) | exact HF.out _ hq1 | exact HF.out _ hq2 | exact HF.out _ hq3 | go_keep)
        (first | (go_at_call 6; (with_reducible refine HTS.out.mono ?_); rintro e y1 ⟨rfl, hq1⟩) | (go_at_call 7; (with_reducible refine (HL2.out _ hq1).mono ?_); rintro e y2 ⟨X2, x2c, rfl, _, hx2, hy2⟩; have hq2 := below_then hq1 hy2; simp only [List.length_nil]))
      all_goals
        have HB9 := Lib.hid (below_then HBW.out hq2)
        clear hq1 hq2 hy2 hx2
        go_wp2
        go_roundw
        case rel => exact ⟨j + 1, by omega, by go_num, HB9⟩
        case measure => simp [intOf]; omega
    · have hd0 : decide ((j : Int) < (n1 : Int)) = false := by simp; omega
      have HB2 := Lib.hid HB.out
      clear HIM HB
      obtain ⟨w5, rfl⟩ : ∃ w5, w5 = w3 := ⟨_, rfl⟩
      go_wp2_with fail
      go_loopw [60] (fun i wr => ∃ j : Nat, j ≤ n2 ∧ i = .int .i64 (j : Int) ∧ Hid (Below w2.heap.size w2 wr)) (fun i _ => n2 - (intOf i).toNat)
      case atStart => exact ⟨0, Nat.zero_le _, rfl, HB2⟩
      case round =>
        clear b0 b1 b2 b3 b4 b5 b6 b7 hd0 HB13 HB2 hj hlt
        obtain ⟨j, hj, rfl, HB⟩ := hrel
        obtain ⟨w3, rfl⟩ : ∃ w3, w3 = wr := ⟨_, rfl⟩
        have HB13 := Lib.hid (below_then HB12.out HB.out)
        obtain ⟨b0, b1, b2, b3, b4, b5, b6, b7⟩ := HBX.out w3 HB.out
        by_cases hlt : j < n2
        · have hd0 : decide ((j : Int) < (n2 : Int)) = true := by simp; omega
          obtain ⟨k, t, Ap, cp, Ar, cr, lo, Al, cl, hkn, hsig, hloc, kk, kl, hlo, hlo3, htl5, hty⟩ := HFU.out j hlt
          obtain ⟨fv, hfv⟩ : ∃ fv : Nat, n1 + j = fv := ⟨_, rfl⟩
          rw [hfv] at hsig hloc
          have dw : IntKind.i64.wrap ((n1 : Int) + (j : Int)) = (fv : Int) := by rw [show (n1 : Int) + (j : Int) = (fv : Int) by omega]; exact IntWalk.i64_in _ (by omega)
          have hfv9 : fv ≤ 1000 := by omega
          have HQ := Lib.hid (HSG.out w3 HB13.out (fv : Int) (by omega))
          rw [hsig] at HQ
          have HLQ := Lib.hid (fun wz (hb : Below w1.heap.size w1 wz) => HLO.out wz hb (fv : Int) (by omega))
          rw [hloc] at HLQ
          clear hsig hloc hfv
          have HTA := Lib.hid hty
          have HKK := Lib.hid kk
          have HKL := Lib.hid kl
          have HLL := Lib.hid hlo
          clear hty kk kl hlo
          go_wp2_with fail
          go_at_call 5
          refine HQ.out.mono ?_
          rintro e w4 ⟨p', r', rfl, hi1, hi2, hb4⟩
          obtain ⟨P1, e1, hq1', _, _⟩ := hi1.form
          obtain ⟨P2, e2, hq2', _, _⟩ := hi2.form
          rw [hq1'] at hi1 ⊢
          rw [hq2'] at hi2 ⊢
          simp only [Option.getD_some, Option.isSome_some] at hi1 hi2 ⊢
          have HI1 := Lib.hid (hi1.keep (K' := fun k => k < w4.heap.size) (Keeps.refl _ _) fun k hk => hk.elim False.elim fun h => h.2)
          have HI2 := Lib.hid (hi2.keep (K' := fun k => k < w4.heap.size) (Keeps.refl _ _) fun k hk => hk.elim False.elim fun h => h.2)
          have HB34 := Lib.hid hb4
          clear hi1 hi2 hb4 hq1' hq2'
          clear b0 b1 b2 b3 b4 b5 b6 b7 HQ
          have HB5 := Lib.hid (below_new (below_then HB.out HB34.out) (.cells #[.slice P1 t.1.length e1, .slice P2 t.2.length e2] 35))
          obtain ⟨W, hW⟩ : ∃ W, W = w4.alloc (.cells #[.slice P1 t.1.length e1, .slice P2 t.2.length e2] 35) := ⟨_, rfl⟩
          have hbw : Below w4.heap.size w4 W := by rw [hW]; exact (Below.refl _ _).alloc (Nat.le_refl _) _
          have hv : ∀ i, W.cell? ⟨w4.heap.size, i, none⟩ = (#[.slice P1 t.1.length e1, .slice P2 t.2.length e2] : Array Value)[i]? := fun i => by rw [hW]; exact World.cell?_alloc_new w4 _ _ i
          have hv0 := hv 0
          have hv1 := hv 1
          simp only [List.getElem?_toArray, List.getElem?_cons_zero, List.getElem?_cons_succ] at hv0 hv1
          rw [← hW] at HB5
          obtain ⟨b0, b1, b2, b3, b4, b5, b6, b7⟩ := HBX.out W (below_then HB.out (below_then HB34.out hbw))
          have HB1W := Lib.hid (below_then HB13.out (below_then HB34.out hbw))
          have HLW := Lib.hid (HLQ.out W HB1W.out)
          go_upto_region 13 with (fail)
          rw [← hW]
          clear hW
          go_wp2_with fail
          go_at_call 7
          refine HLW.out.mono ?_
          rintro e w6 ⟨X6, x6c, rfl, hxc, hx6, hb6⟩
          rw [List.length_append] at hx6 hxc ⊢
          have HX6 := Lib.hid (hx6.keep (K' := fun k => k < w6.heap.size) (Keeps.refl _ _) fun k hk => hk.2)
          clear b0 b1 b2 b3 b4 b5 b6 b7 hx6
          have hb46 := below_then hbw hb6
          have hb16 := below_then HB1W.out hb6
          have hv0' := (hb6.cell (p := ⟨w4.heap.size, 0, none⟩) (World.block_lt_of_cell? _ _ hv0)).trans hv0
          have hv1' := (hb6.cell (p := ⟨w4.heap.size, 1, none⟩) (World.block_lt_of_cell? _ _ hv1)).trans hv1
          have hb1d : Below w1.heap.size w1 w6.drew := hb16.drew
          have HB26 := Lib.hid (below_then HB5.out hb6)
          obtain ⟨np, hnp⟩ : ∃ n, t.1.length = n := ⟨_, rfl⟩
          obtain ⟨nl, hnl⟩ : ∃ n, lo.length = n := ⟨_, rfl⟩
          have HF : Hid (∀ wz, Below w6.heap.size w6 wz → (fun w' => w'.cell? ⟨M, 0, none⟩ = some (.slice (some ⟨g0, o0, none⟩) n0 c0) ∧ w'.cell? ⟨M, 1, none⟩ = some (.slice (some ⟨g1, o1, none⟩) n1 c1) ∧ w'.cell? ⟨M, 2, none⟩ = some (.slice (some ⟨g2, o2, none⟩) n2 c2) ∧ w'.cell? ⟨M, 3, none⟩ = some (.slice A3 n3 c3) ∧ w'.cell? ⟨M, 4, none⟩ = some (.slice A4 n4 c4) ∧ w'.cell? ⟨M, 5, none⟩ = some (.slice A5 n5 c5) ∧ w'.cell? ⟨M, 6, none⟩ = some (.slice A6 n6 c6) ∧ w'.cell? ⟨M, 7, none⟩ = some (.slice A7 n7 c7) ∧ w'.cell? ⟨w4.heap.size, 0, none⟩ = some (.slice P1 t.1.length e1) ∧ w'.cell? ⟨w4.heap.size, 1, none⟩ = some (.slice P2 t.2.length e2) ∧ w'.cell? ⟨g2, o2 + j * 3, none⟩ = some (.int .i64 (k : Int)) ∧ w'.cell? ⟨g2, o2 + j * 3 + 1, none⟩ = some (.slice Al lo.length cl) ∧ w'.cell? ⟨g0, o0 + k * 2, none⟩ = some (.slice Ap t.1.length cp) ∧ w'.cell? ⟨g0, o0 + k * 2 + 1, none⟩ = some (.slice Ar t.2.length cr)) wz) := Lib.hid fun wz hb => by
            obtain ⟨b0, b1, b2, b3, b4, b5, b6, b7⟩ := HBX.out wz (below_then HB26.out hb)
            have hty := HTA.out.below (Nat.le_refl _) (below_then hb16 hb)
            exact ⟨b0, b1, b2, b3, b4, b5, b6, b7, (hb.cell (p := ⟨w4.heap.size, 0, none⟩) (World.block_lt_of_cell? _ _ hv0')).trans hv0', (hb.cell (p := ⟨w4.heap.size, 1, none⟩) (World.block_lt_of_cell? _ _ hv1')).trans hv1', ((below_then hb16 hb).cell (p := ⟨g2, o2 + j * 3, none⟩) (World.block_lt_of_cell? _ _ HKK.out)).trans HKK.out, ((below_then hb16 hb).cell (p := ⟨g2, o2 + j * 3 + 1, none⟩) (World.block_lt_of_cell? _ _ HKL.out)).trans HKL.out, hty.c0, hty.c1⟩
          have HTS := Lib.hid (fun wz (hb : Below w6.heap.size w6 wz) => types_same (HTA.out.below (Nat.le_refl _) (below_then hb16 hb)) (below_then hb16 hb).size (HI1.out.keep (Keeps.below (below_then hb46 hb) fun _ hk => hk) fun _ hk => Nat.lt_of_lt_of_le hk (below_then hb46 hb).size) (HI2.out.keep (Keeps.below (below_then hb46 hb) fun _ hk => hk) fun _ hk => Nat.lt_of_lt_of_le hk (below_then hb46 hb).size))
          have HS1 := Lib.hid (fun wz (hb : Below w6.heap.size w6 wz) => same_ints (K := fun k => k < wz.heap.size) ((HX6.out.front (a := t.1) (b := lo)).keep (Keeps.below hb fun _ hk => hk) fun _ hk => Nat.lt_of_lt_of_le hk hb.size) (HI1.out.keep (Keeps.below (below_then hb46 hb) fun _ hk => hk) fun _ hk => Nat.lt_of_lt_of_le hk (below_then hb46 hb).size))
          have HS2 := Lib.hid (fun wz (hb : Below w6.heap.size w6 wz) v9 (h9 : IntsK (fun k => k < w6.heap.size) w6 v9 lo) => same_ints (K := fun k => k < wz.heap.size) (h9.keep (Keeps.below hb fun _ hk => hk) fun _ hk => Nat.lt_of_lt_of_le hk hb.size) (HLL.out.keep (Keeps.below (below_then hb16 hb) fun _ hk => hk) fun _ hk => Nat.lt_of_lt_of_le hk (below_then hb16 hb).size))
          rw [hnp] at htl5 HTS HS1 HF ⊢
          rw [hnl] at hlo3 HS2 HF ⊢
          rw [hnp] at HX6 hxc
          rw [hnl] at HX6 hxc
          have HNP := Lib.hid hnp
          have HNL := Lib.hid hnl
          have dlen : IntKind.i64.wrap ((np : Int) + (nl : Int)) = ((np + nl : Nat) : Int) := by rw [show (np : Int) + (nl : Int) = ((np + nl : Nat) : Int) by omega]; exact IntWalk.i64_in _ (by omega)
          have hk1 : (0 : Int) ≤ (k : Int) ∧ (k : Int) < (n0 : Int) := by omega
          have hj1 : (0 : Int) ≤ (j : Int) ∧ (j : Int) < (n2 : Int) := by omega
          have hXc := HX6.out
          obtain ⟨nx, hnx⟩ : ∃ n, np + nl = n := ⟨_, rfl⟩
          rw [hnx] at dlen HX6 hXc hxc ⊢
          clear hv0 hv1 hv hbw HKK HKL HTA HLQ HLL HI1 HI2 hv0' hv1' hb46 hb16 HB5 hnp hnl HLW dw
          obtain ⟨A6', c6', he6, hlx, hnil, hsx⟩ := id hXc
          simp only [Value.slice.injEq] at he6
          obtain ⟨rfl, -, rfl⟩ := he6
          have hway : (X6 = none ∧ nx = 0 ∧ x6c = 0) ∨ (∃ ad, X6 = some ad ∧ nx = 0) ∨ (∃ gx ox, X6 = some ⟨gx, ox, none⟩ ∧ 0 < nx) := by
            rcases Nat.eq_zero_or_pos nx with h | h
            · rcases X6 with _ | ad
              · exact .inl ⟨rfl, h, hnil rfl⟩
              · exact .inr (.inl ⟨ad, rfl, h⟩)
            · obtain ⟨gx, ox, h9, _⟩ := hsx (by rw [List.length_append, HNP.out, HNL.out]; omega)
              exact .inr (.inr ⟨gx, ox, h9, h⟩)
          clear hnil hsx hlx hXc
          rcases hway with ⟨rfl, h0, rfl⟩ | ⟨ad, rfl, h0⟩ | ⟨gx, ox, rfl, h0⟩
          · skip
            have hnp0 : np = 0 := by omega
            have hnl0 : nl = 0 := by omega
            subst hnp0 hnl0 h0
            have HSB := Lib.hid (fun wz hb => HS2.out wz hb (.slice none 0 0) (by rw [List.eq_nil_of_length_eq_zero HNL.out]; exact IntsK.nil _ _))
            clear HX6 HS2 HNP HNL
            go_upto_region 14 with (fail)
            refine wp_region_class (C := fun w' => Below w6.heap.size w6 w') (by kernel_rfl) (by kernel_rfl) ((Below.refl _ _).drew) ?_
            refine WpQ.take (v := ?_) (by rfl) ?_ ?_
            rotate_left
            · intro wz hz
              go_simp
              try with_reducible rfl
            try simp only [Act.put, List.setIfInBounds_toArray, List.set]
            refine WpQ.take (v := ?_) (by rfl) ?_ ?_
            rotate_left
            · intro wz hz
              go_simp
              try with_reducible rfl
            try simp only [Act.put, List.setIfInBounds_toArray, List.set]
            refine WpQ.take (v := ?_) (by rfl) ?_ ?_
            rotate_left
            · intro wz hz
              go_simp
              try with_reducible rfl
            try simp only [Act.put, List.setIfInBounds_toArray, List.set]
            refine WpQ.take (v := ?_) (by rfl) ?_ ?_
            rotate_left
            · intro wz hz
              obtain ⟨b0, b1, b2, b3, b4, b5, b6, b7, q0, q1, q2, q3, q4, q5⟩ := HF.out wz hz
              go_simp
              try with_reducible rfl
            try simp only [Act.put, List.setIfInBounds_toArray, List.set]
            refine WpQ.take (v := ?_) (by rfl) ?_ ?_
            rotate_left
            · intro wz hz
              go_simp
              try with_reducible rfl
            try simp only [Act.put, List.setIfInBounds_toArray, List.set]
            refine WpQ.take (v := ?_) (by rfl) ?_ ?_
            rotate_left
            · intro wz hz
              obtain ⟨b0, b1, b2, b3, b4, b5, b6, b7, q0, q1, q2, q3, q4, q5⟩ := HF.out wz hz
              go_simp
              try with_reducible rfl
            try simp only [Act.put, List.setIfInBounds_toArray, List.set]
            refine WpQ.take (v := ?_) (by rfl) ?_ ?_
            rotate_left
            · intro wz hz
              go_simp
              try with_reducible rfl
            try simp only [Act.put, List.setIfInBounds_toArray, List.set]
            refine WpQ.take (v := ?_) (by rfl) ?_ ?_
            rotate_left
            · intro wz hz
              obtain ⟨b0, b1, b2, b3, b4, b5, b6, b7, q0, q1, q2, q3, q4, q5⟩ := HF.out wz hz
              go_simp
              try with_reducible rfl
            try simp only [Act.put, List.setIfInBounds_toArray, List.set]
            refine WpQ.take (v := ?_) (by rfl) ?_ ?_
            rotate_left
            · intro wz hz
              go_simp
              try with_reducible rfl
            try simp only [Act.put, List.setIfInBounds_toArray, List.set]
            refine WpQ.take (v := ?_) (by rfl) ?_ ?_
            rotate_left
            · intro wz hz
              go_simp
              try with_reducible rfl
            try simp only [Act.put, List.setIfInBounds_toArray, List.set]
            refine WpQ.take (v := ?_) (by rfl) ?_ ?_
            rotate_left
            · intro wz hz
              go_simp
              try with_reducible rfl
            try simp only [Act.put, List.setIfInBounds_toArray, List.set]
            refine WpQ.take (v := ?_) (by rfl) ?_ ?_
            rotate_left
            · intro wz hz
              obtain ⟨b0, b1, b2, b3, b4, b5, b6, b7, q0, q1, q2, q3, q4, q5⟩ := HF.out wz hz
              go_simp
              try with_reducible rfl
            try simp only [Act.put, List.setIfInBounds_toArray, List.set]
            refine WpQ.take (v := ?_) (by rfl) ?_ ?_
            rotate_left
            · intro wz hz
              go_simp
              try with_reducible rfl
            try simp only [Act.put, List.setIfInBounds_toArray, List.set]
            refine WpQ.take (v := ?_) (by rfl) ?_ ?_
            rotate_left
            · intro wz hz
              obtain ⟨b0, b1, b2, b3, b4, b5, b6, b7, q0, q1, q2, q3, q4, q5⟩ := HF.out wz hz
              go_simp
              try with_reducible rfl
            try simp only [Act.put, List.setIfInBounds_toArray, List.set]
            refine WpQ.take (v := .bool true) (by rfl) ?_ ?_
            · intro wz hz
              go_simp
              exact (HTS.out wz hz).mono fun e w' h => ⟨h.1, below_then hz h.2⟩
            try simp only [Act.put, List.setIfInBounds_toArray, List.set]
            refine WpQ.take (v := ?_) (by rfl) ?_ ?_
            rotate_left
            · intro wz hz
              go_simp
              try with_reducible rfl
            try simp only [Act.put, List.setIfInBounds_toArray, List.set]
            refine WpQ.take (v := ?_) (by rfl) ?_ ?_
            rotate_left
            · intro wz hz
              go_simp
              try with_reducible rfl
            try simp only [Act.put, List.setIfInBounds_toArray, List.set]
            refine WpQ.take (v := ?_) (by rfl) ?_ ?_
            rotate_left
            · intro wz hz
              go_simp
              try with_reducible rfl
            try simp only [Act.put, List.setIfInBounds_toArray, List.set]
            refine WpQ.take (v := ?_) (by rfl) ?_ ?_
            rotate_left
            · intro wz hz
              go_simp
              try with_reducible rfl
            try simp only [Act.put, List.setIfInBounds_toArray, List.set]
            refine WpQ.take (v := ?_) (by rfl) ?_ ?_
            rotate_left
            · intro wz hz
              go_simp
              try with_reducible rfl
            try simp only [Act.put, List.setIfInBounds_toArray, List.set]
            refine WpQ.take (v := ?_) (by rfl) ?_ ?_
            rotate_left
            · intro wz hz
              go_simp
              try with_reducible rfl
            try simp only [Act.put, List.setIfInBounds_toArray, List.set]
            refine WpQ.take (v := ?_) (by rfl) ?_ ?_
            rotate_left
            · intro wz hz
              obtain ⟨b0, b1, b2, b3, b4, b5, b6, b7, q0, q1, q2, q3, q4, q5⟩ := HF.out wz hz
              go_simp
              try with_reducible rfl
            try simp only [Act.put, List.setIfInBounds_toArray, List.set]
            refine WpQ.take (v := ?_) (by rfl) ?_ ?_
            rotate_left
            · intro wz hz
              go_simp
              try with_reducible rfl
            try simp only [Act.put, List.setIfInBounds_toArray, List.set]
            refine WpQ.take (v := ?_) (by rfl) ?_ ?_
            rotate_left
            · intro wz hz
              go_simp
              try with_reducible rfl
            try simp only [Act.put, List.setIfInBounds_toArray, List.set]
            refine WpQ.take (v := ?_) (by rfl) ?_ ?_
            rotate_left
            · intro wz hz
              obtain ⟨b0, b1, b2, b3, b4, b5, b6, b7, q0, q1, q2, q3, q4, q5⟩ := HF.out wz hz
              go_simp
              try with_reducible rfl
            try simp only [Act.put, List.setIfInBounds_toArray, List.set]
            refine WpQ.take (v := ?_) (by rfl) ?_ ?_
            rotate_left
            · intro wz hz
              go_simp
              try with_reducible rfl
            try simp only [Act.put, List.setIfInBounds_toArray, List.set]
            refine WpQ.take (v := ?_) (by rfl) ?_ ?_
            rotate_left
            · intro wz hz
              go_simp
              try with_reducible rfl
            try simp only [Act.put, List.setIfInBounds_toArray, List.set]
            refine WpQ.take (v := ?_) (by rfl) ?_ ?_
            rotate_left
            · intro wz hz
              go_simp
              try with_reducible rfl
            try simp only [Act.put, List.setIfInBounds_toArray, List.set]
            refine WpQ.take (v := ?_) (by rfl) ?_ ?_
            rotate_left
            · intro wz hz
              obtain ⟨b0, b1, b2, b3, b4, b5, b6, b7, q0, q1, q2, q3, q4, q5⟩ := HF.out wz hz
              go_simp
              try with_reducible rfl
            try simp only [Act.put, List.setIfInBounds_toArray, List.set]
            refine WpQ.take (v := ?_) (by rfl) ?_ ?_
            rotate_left
            · intro wz hz
              go_simp
              try with_reducible rfl
            try simp only [Act.put, List.setIfInBounds_toArray, List.set]
            refine WpQ.take (v := ?_) (by rfl) ?_ ?_
            rotate_left
            · intro wz hz
              go_simp
              try with_reducible rfl
            try simp only [Act.put, List.setIfInBounds_toArray, List.set]
            refine WpQ.take (v := ?_) (by rfl) ?_ ?_
            rotate_left
            · intro wz hz
              go_simp
              try with_reducible rfl
            try simp only [Act.put, List.setIfInBounds_toArray, List.set]
            refine WpQ.take (v := ?_) (by rfl) ?_ ?_
            rotate_left
            · intro wz hz
              go_simp
              try with_reducible rfl
            try simp only [Act.put, List.setIfInBounds_toArray, List.set]
            refine WpQ.take (v := ?_) (by rfl) ?_ ?_
            rotate_left
            · intro wz hz
              go_simp
              try with_reducible rfl
            try simp only [Act.put, List.setIfInBounds_toArray, List.set]
            refine WpQ.take (v := ?_) (by rfl) ?_ ?_
            rotate_left
            · intro wz hz
              go_simp
              try with_reducible rfl
            try simp only [Act.put, List.setIfInBounds_toArray, List.set]
            refine WpQ.take (v := ?_) (by rfl) ?_ ?_
            rotate_left
            · intro wz hz
              go_simp
              try with_reducible rfl
            try simp only [Act.put, List.setIfInBounds_toArray, List.set]
            refine WpQ.take (v := ?_) (by rfl) ?_ ?_
            rotate_left
            · intro wz hz
              obtain ⟨b0, b1, b2, b3, b4, b5, b6, b7, q0, q1, q2, q3, q4, q5⟩ := HF.out wz hz
              go_simp
              try with_reducible rfl
            try simp only [Act.put, List.setIfInBounds_toArray, List.set]
            refine WpQ.take (v := ?_) (by rfl) ?_ ?_
            rotate_left
            · intro wz hz
              go_simp
              try with_reducible rfl
            try simp only [Act.put, List.setIfInBounds_toArray, List.set]
            refine WpQ.take (v := ?_) (by rfl) ?_ ?_
            rotate_left
            · intro wz hz
              go_simp
              try with_reducible rfl
            try simp only [Act.put, List.setIfInBounds_toArray, List.set]
            refine WpQ.take (v := ?_) (by rfl) ?_ ?_
            rotate_left
            · intro wz hz
              go_simp
              try with_reducible rfl
            try simp only [Act.put, List.setIfInBounds_toArray, List.set]
            refine WpQ.take (v := ?_) (by rfl) ?_ ?_
            rotate_left
            · intro wz hz
              obtain ⟨b0, b1, b2, b3, b4, b5, b6, b7, q0, q1, q2, q3, q4, q5⟩ := HF.out wz hz
              go_simp
              try with_reducible rfl
            try simp only [Act.put, List.setIfInBounds_toArray, List.set]
            refine WpQ.take (v := .bool true) (by rfl) ?_ ?_
            · intro wz hz
              go_simp
              exact (HS1.out wz hz).mono fun e w' h => ⟨h.1, below_then hz h.2⟩
            try simp only [Act.put, List.setIfInBounds_toArray, List.set]
            refine WpQ.take (v := ?_) (by rfl) ?_ ?_
            rotate_left
            · intro wz hz
              go_simp
              try with_reducible rfl
            try simp only [Act.put, List.setIfInBounds_toArray, List.set]
            refine WpQ.take (v := ?_) (by rfl) ?_ ?_
            rotate_left
            · intro wz hz
              go_simp
              try with_reducible rfl
            try simp only [Act.put, List.setIfInBounds_toArray, List.set]
            refine WpQ.take (v := ?_) (by rfl) ?_ ?_
            rotate_left
            · intro wz hz
              go_simp
              try with_reducible rfl
            try simp only [Act.put, List.setIfInBounds_toArray, List.set]
            refine WpQ.take (v := ?_) (by rfl) ?_ ?_
            rotate_left
            · intro wz hz
              go_simp
              try with_reducible rfl
            try simp only [Act.put, List.setIfInBounds_toArray, List.set]
            refine WpQ.take (v := ?_) (by rfl) ?_ ?_
            rotate_left
            · intro wz hz
              go_simp
              try with_reducible rfl
            try simp only [Act.put, List.setIfInBounds_toArray, List.set]
            refine WpQ.take (v := ?_) (by rfl) ?_ ?_
            rotate_left
            · intro wz hz
              obtain ⟨b0, b1, b2, b3, b4, b5, b6, b7, q0, q1, q2, q3, q4, q5⟩ := HF.out wz hz
              go_simp
              try with_reducible rfl
            try simp only [Act.put, List.setIfInBounds_toArray, List.set]
            refine WpQ.take (v := ?_) (by rfl) ?_ ?_
            rotate_left
            · intro wz hz
              go_simp
              try with_reducible rfl
            try simp only [Act.put, List.setIfInBounds_toArray, List.set]
            refine WpQ.take (v := ?_) (by rfl) ?_ ?_
            rotate_left
            · intro wz hz
              go_simp
              try with_reducible rfl
            try simp only [Act.put, List.setIfInBounds_toArray, List.set]
            refine WpQ.take (v := ?_) (by rfl) ?_ ?_
            rotate_left
            · intro wz hz
              go_simp
              try with_reducible rfl
            try simp only [Act.put, List.setIfInBounds_toArray, List.set]
            refine WpQ.take (v := ?_) (by rfl) ?_ ?_
            rotate_left
            · intro wz hz
              obtain ⟨b0, b1, b2, b3, b4, b5, b6, b7, q0, q1, q2, q3, q4, q5⟩ := HF.out wz hz
              go_simp
              try with_reducible rfl
            try simp only [Act.put, List.setIfInBounds_toArray, List.set]
            refine WpQ.take (v := ?_) (by rfl) ?_ ?_
            rotate_left
            · intro wz hz
              go_simp
              try with_reducible rfl
            try simp only [Act.put, List.setIfInBounds_toArray, List.set]
            refine WpQ.take (v := ?_) (by rfl) ?_ ?_
            rotate_left
            · intro wz hz
              go_simp
              try with_reducible rfl
            try simp only [Act.put, List.setIfInBounds_toArray, List.set]
            refine WpQ.take (v := ?_) (by rfl) ?_ ?_
            rotate_left
            · intro wz hz
              go_simp
              try with_reducible rfl
            try simp only [Act.put, List.setIfInBounds_toArray, List.set]
            refine WpQ.take (v := ?_) (by rfl) ?_ ?_
            rotate_left
            · intro wz hz
              obtain ⟨b0, b1, b2, b3, b4, b5, b6, b7, q0, q1, q2, q3, q4, q5⟩ := HF.out wz hz
              go_simp
              try with_reducible rfl
            try simp only [Act.put, List.setIfInBounds_toArray, List.set]
            refine WpQ.take (v := .bool true) (by rfl) ?_ ?_
            · intro wz hz
              go_simp
              exact (HSB.out wz hz).mono fun e w' h => ⟨h.1, below_then hz h.2⟩
            try simp only [Act.put, List.setIfInBounds_toArray, List.set]
            refine WpQ.take (v := ?_) (by rfl) ?_ ?_
            rotate_left
            · intro wz hz
              go_simp
              try with_reducible rfl
            try simp only [Act.put, List.setIfInBounds_toArray, List.set]
            refine WpQ.take (v := ?_) (by rfl) ?_ ?_
            rotate_left
            · intro wz hz
              go_simp
              try with_reducible rfl
            try simp only [Act.put, List.setIfInBounds_toArray, List.set]
            refine wpQuiet_nil ?_
            intro wq hwq
            have HB9 := Lib.hid (below_then HB26.out hwq)
            clear hwq
            go_wp2
            go_roundw
            case rel => exact ⟨j + 1, by omega, by go_num, HB9⟩
            case measure => simp [intOf]; omega
          · skip
            have hnp0 : np = 0 := by omega
            have hnl0 : nl = 0 := by omega
            subst hnp0 hnl0 h0
            have HSB := Lib.hid (fun wz hb (A : Addr) (c : Nat) => HS2.out wz hb (.slice (some A) 0 c) (by rw [List.eq_nil_of_length_eq_zero HNL.out]; exact ⟨some A, c, rfl, Nat.zero_le _, (fun h => by cases h), fun h => absurd h (Nat.lt_irrefl _)⟩))
            clear HX6 HS2 HNP HNL
            go_upto_region 14 with (fail)
            refine wp_region_class (C := fun w' => Below w6.heap.size w6 w') (by kernel_rfl) (by kernel_rfl) ((Below.refl _ _).drew) ?_
            refine WpQ.take (v := ?_) (by rfl) ?_ ?_
            rotate_left
            · intro wz hz
              go_simp
              try with_reducible rfl
            try simp only [Act.put, List.setIfInBounds_toArray, List.set]
            refine WpQ.take (v := ?_) (by rfl) ?_ ?_
            rotate_left
            · intro wz hz
              go_simp
              try with_reducible rfl
            try simp only [Act.put, List.setIfInBounds_toArray, List.set]
            refine WpQ.take (v := ?_) (by rfl) ?_ ?_
            rotate_left
            · intro wz hz
              go_simp
              try with_reducible rfl
            try simp only [Act.put, List.setIfInBounds_toArray, List.set]
            refine WpQ.take (v := ?_) (by rfl) ?_ ?_
            rotate_left
            · intro wz hz
              obtain ⟨b0, b1, b2, b3, b4, b5, b6, b7, q0, q1, q2, q3, q4, q5⟩ := HF.out wz hz
              go_simp
              try with_reducible rfl
            try simp only [Act.put, List.setIfInBounds_toArray, List.set]
            refine WpQ.take (v := ?_) (by rfl) ?_ ?_
            rotate_left
            · intro wz hz
              go_simp
              try with_reducible rfl
            try simp only [Act.put, List.setIfInBounds_toArray, List.set]
            refine WpQ.take (v := ?_) (by rfl) ?_ ?_
            rotate_left
            · intro wz hz
              obtain ⟨b0, b1, b2, b3, b4, b5, b6, b7, q0, q1, q2, q3, q4, q5⟩ := HF.out wz hz
              go_simp
              try with_reducible rfl
            try simp only [Act.put, List.setIfInBounds_toArray, List.set]
            refine WpQ.take (v := ?_) (by rfl) ?_ ?_
            rotate_left
            · intro wz hz
              go_simp
              try with_reducible rfl
            try simp only [Act.put, List.setIfInBounds_toArray, List.set]
            refine WpQ.take (v := ?_) (by rfl) ?_ ?_
            rotate_left
            · intro wz hz
              obtain ⟨b0, b1, b2, b3, b4, b5, b6, b7, q0, q1, q2, q3, q4, q5⟩ := HF.out wz hz
              go_simp
              try with_reducible rfl
            try simp only [Act.put, List.setIfInBounds_toArray, List.set]
            refine WpQ.take (v := ?_) (by rfl) ?_ ?_
            rotate_left
            · intro wz hz
              go_simp
              try with_reducible rfl
            try simp only [Act.put, List.setIfInBounds_toArray, List.set]
            refine WpQ.take (v := ?_) (by rfl) ?_ ?_
            rotate_left
            · intro wz hz
              go_simp
              try with_reducible rfl
            try simp only [Act.put, List.setIfInBounds_toArray, List.set]
            refine WpQ.take (v := ?_) (by rfl) ?_ ?_
            rotate_left
            · intro wz hz
              go_simp
              try with_reducible rfl
            try simp only [Act.put, List.setIfInBounds_toArray, List.set]
            refine WpQ.take (v := ?_) (by rfl) ?_ ?_
            rotate_left
            · intro wz hz
              obtain ⟨b0, b1, b2, b3, b4, b5, b6, b7, q0, q1, q2, q3, q4, q5⟩ := HF.out wz hz
              go_simp
              try with_reducible rfl
            try simp only [Act.put, List.setIfInBounds_toArray, List.set]
            refine WpQ.take (v := ?_) (by rfl) ?_ ?_
            rotate_left
            · intro wz hz
              go_simp
              try with_reducible rfl
            try simp only [Act.put, List.setIfInBounds_toArray, List.set]
            refine WpQ.take (v := ?_) (by rfl) ?_ ?_
            rotate_left
            · intro wz hz
              obtain ⟨b0, b1, b2, b3, b4, b5, b6, b7, q0, q1, q2, q3, q4, q5⟩ := HF.out wz hz
              go_simp
              try with_reducible rfl
            try simp only [Act.put, List.setIfInBounds_toArray, List.set]
            refine WpQ.take (v := .bool true) (by rfl) ?_ ?_
            · intro wz hz
              go_simp
              exact (HTS.out wz hz).mono fun e w' h => ⟨h.1, below_then hz h.2⟩
            try simp only [Act.put, List.setIfInBounds_toArray, List.set]
            refine WpQ.take (v := ?_) (by rfl) ?_ ?_
            rotate_left
            · intro wz hz
              go_simp
              try with_reducible rfl
            try simp only [Act.put, List.setIfInBounds_toArray, List.set]
            refine WpQ.take (v := ?_) (by rfl) ?_ ?_
            rotate_left
            · intro wz hz
              go_simp
              try with_reducible rfl
            try simp only [Act.put, List.setIfInBounds_toArray, List.set]
            refine WpQ.take (v := ?_) (by rfl) ?_ ?_
            rotate_left
            · intro wz hz
              go_simp
              try with_reducible rfl
            try simp only [Act.put, List.setIfInBounds_toArray, List.set]
            refine WpQ.take (v := ?_) (by rfl) ?_ ?_
            rotate_left
            · intro wz hz
              go_simp
              try with_reducible rfl
            try simp only [Act.put, List.setIfInBounds_toArray, List.set]
            refine WpQ.take (v := ?_) (by rfl) ?_ ?_
            rotate_left
            · intro wz hz
              go_simp
              try with_reducible rfl
            try simp only [Act.put, List.setIfInBounds_toArray, List.set]
            refine WpQ.take (v := ?_) (by rfl) ?_ ?_
            rotate_left
            · intro wz hz
              go_simp
              try with_reducible rfl
            try simp only [Act.put, List.setIfInBounds_toArray, List.set]
            refine WpQ.take (v := ?_) (by rfl) ?_ ?_
            rotate_left
            · intro wz hz
              obtain ⟨b0, b1, b2, b3, b4, b5, b6, b7, q0, q1, q2, q3, q4, q5⟩ := HF.out wz hz
              go_simp
              try with_reducible rfl
            try simp only [Act.put, List.setIfInBounds_toArray, List.set]
            refine WpQ.take (v := ?_) (by rfl) ?_ ?_
            rotate_left
            · intro wz hz
              go_simp
              try with_reducible rfl
            try simp only [Act.put, List.setIfInBounds_toArray, List.set]
            refine WpQ.take (v := ?_) (by rfl) ?_ ?_
            rotate_left
            · intro wz hz
              go_simp
              try with_reducible rfl
            try simp only [Act.put, List.setIfInBounds_toArray, List.set]
            refine WpQ.take (v := ?_) (by rfl) ?_ ?_
            rotate_left
            · intro wz hz
              obtain ⟨b0, b1, b2, b3, b4, b5, b6, b7, q0, q1, q2, q3, q4, q5⟩ := HF.out wz hz
              go_simp
              try with_reducible rfl
            try simp only [Act.put, List.setIfInBounds_toArray, List.set]
            refine WpQ.take (v := ?_) (by rfl) ?_ ?_
            rotate_left
            · intro wz hz
              go_simp
              try with_reducible rfl
            try simp only [Act.put, List.setIfInBounds_toArray, List.set]
            refine WpQ.take (v := ?_) (by rfl) ?_ ?_
            rotate_left
            · intro wz hz
              go_simp
              try with_reducible rfl
            try simp only [Act.put, List.setIfInBounds_toArray, List.set]
            refine WpQ.take (v := ?_) (by rfl) ?_ ?_
            rotate_left
            · intro wz hz
              go_simp
              try with_reducible rfl
            try simp only [Act.put, List.setIfInBounds_toArray, List.set]
            refine WpQ.take (v := ?_) (by rfl) ?_ ?_
            rotate_left
            · intro wz hz
              obtain ⟨b0, b1, b2, b3, b4, b5, b6, b7, q0, q1, q2, q3, q4, q5⟩ := HF.out wz hz
              go_simp
              try with_reducible rfl
            try simp only [Act.put, List.setIfInBounds_toArray, List.set]
            refine WpQ.take (v := ?_) (by rfl) ?_ ?_
            rotate_left
            · intro wz hz
              go_simp
              try with_reducible rfl
            try simp only [Act.put, List.setIfInBounds_toArray, List.set]
            refine WpQ.take (v := ?_) (by rfl) ?_ ?_
            rotate_left
            · intro wz hz
              go_simp
              try with_reducible rfl
            try simp only [Act.put, List.setIfInBounds_toArray, List.set]
            refine WpQ.take (v := ?_) (by rfl) ?_ ?_
            rotate_left
            · intro wz hz
              go_simp
              try with_reducible rfl
            try simp only [Act.put, List.setIfInBounds_toArray, List.set]
            refine WpQ.take (v := ?_) (by rfl) ?_ ?_
            rotate_left
            · intro wz hz
              go_simp
              try with_reducible rfl
            try simp only [Act.put, List.setIfInBounds_toArray, List.set]
            refine WpQ.take (v := ?_) (by rfl) ?_ ?_
            rotate_left
            · intro wz hz
              go_simp
              try with_reducible rfl
            try simp only [Act.put, List.setIfInBounds_toArray, List.set]
            refine WpQ.take (v := ?_) (by rfl) ?_ ?_
            rotate_left
            · intro wz hz
              go_simp
              try with_reducible rfl
            try simp only [Act.put, List.setIfInBounds_toArray, List.set]
            refine WpQ.take (v := ?_) (by rfl) ?_ ?_
            rotate_left
            · intro wz hz
              go_simp
              try with_reducible rfl
            try simp only [Act.put, List.setIfInBounds_toArray, List.set]
            refine WpQ.take (v := ?_) (by rfl) ?_ ?_
            rotate_left
            · intro wz hz
              obtain ⟨b0, b1, b2, b3, b4, b5, b6, b7, q0, q1, q2, q3, q4, q5⟩ := HF.out wz hz
              go_simp
              try with_reducible rfl
            try simp only [Act.put, List.setIfInBounds_toArray, List.set]
            refine WpQ.take (v := ?_) (by rfl) ?_ ?_
            rotate_left
            · intro wz hz
              go_simp
              try with_reducible rfl
            try simp only [Act.put, List.setIfInBounds_toArray, List.set]
            refine WpQ.take (v := ?_) (by rfl) ?_ ?_
            rotate_left
            · intro wz hz
              go_simp
              try with_reducible rfl
            try simp only [Act.put, List.setIfInBounds_toArray, List.set]
            refine WpQ.take (v := ?_) (by rfl) ?_ ?_
            rotate_left
            · intro wz hz
              go_simp
              try with_reducible rfl
            try simp only [Act.put, List.setIfInBounds_toArray, List.set]
            refine WpQ.take (v := ?_) (by rfl) ?_ ?_
            rotate_left
            · intro wz hz
              obtain ⟨b0, b1, b2, b3, b4, b5, b6, b7, q0, q1, q2, q3, q4, q5⟩ := HF.out wz hz
              go_simp
              try with_reducible rfl
            try simp only [Act.put, List.setIfInBounds_toArray, List.set]
            refine WpQ.take (v := .bool true) (by rfl) ?_ ?_
            · intro wz hz
              go_simp
              exact (HS1.out wz hz).mono fun e w' h => ⟨h.1, below_then hz h.2⟩
            try simp only [Act.put, List.setIfInBounds_toArray, List.set]
            refine WpQ.take (v := ?_) (by rfl) ?_ ?_
            rotate_left
            · intro wz hz
              go_simp
              try with_reducible rfl
            try simp only [Act.put, List.setIfInBounds_toArray, List.set]
            refine WpQ.take (v := ?_) (by rfl) ?_ ?_
            rotate_left
            · intro wz hz
              go_simp
              try with_reducible rfl
            try simp only [Act.put, List.setIfInBounds_toArray, List.set]
            refine WpQ.take (v := ?_) (by rfl) ?_ ?_
            rotate_left
            · intro wz hz
              go_simp
              try with_reducible rfl
            try simp only [Act.put, List.setIfInBounds_toArray, List.set]
            refine WpQ.take (v := ?_) (by rfl) ?_ ?_
            rotate_left
            · intro wz hz
              go_simp
              try with_reducible rfl
            try simp only [Act.put, List.setIfInBounds_toArray, List.set]
            refine WpQ.take (v := ?_) (by rfl) ?_ ?_
            rotate_left
            · intro wz hz
              go_simp
              try with_reducible rfl
            try simp only [Act.put, List.setIfInBounds_toArray, List.set]
            refine WpQ.take (v := ?_) (by rfl) ?_ ?_
            rotate_left
            · intro wz hz
              obtain ⟨b0, b1, b2, b3, b4, b5, b6, b7, q0, q1, q2, q3, q4, q5⟩ := HF.out wz hz
              go_simp
              try with_reducible rfl
            try simp only [Act.put, List.setIfInBounds_toArray, List.set]
            refine WpQ.take (v := ?_) (by rfl) ?_ ?_
            rotate_left
            · intro wz hz
              go_simp
              try with_reducible rfl
            try simp only [Act.put, List.setIfInBounds_toArray, List.set]
            refine WpQ.take (v := ?_) (by rfl) ?_ ?_
            rotate_left
            · intro wz hz
              go_simp
              try with_reducible rfl
            try simp only [Act.put, List.setIfInBounds_toArray, List.set]
            refine WpQ.take (v := ?_) (by rfl) ?_ ?_
            rotate_left
            · intro wz hz
              go_simp
              try with_reducible rfl
            try simp only [Act.put, List.setIfInBounds_toArray, List.set]
            refine WpQ.take (v := ?_) (by rfl) ?_ ?_
            rotate_left
            · intro wz hz
              obtain ⟨b0, b1, b2, b3, b4, b5, b6, b7, q0, q1, q2, q3, q4, q5⟩ := HF.out wz hz
              go_simp
              try with_reducible rfl
            try simp only [Act.put, List.setIfInBounds_toArray, List.set]
            refine WpQ.take (v := ?_) (by rfl) ?_ ?_
            rotate_left
            · intro wz hz
              go_simp
              try with_reducible rfl
            try simp only [Act.put, List.setIfInBounds_toArray, List.set]
            refine WpQ.take (v := ?_) (by rfl) ?_ ?_
            rotate_left
            · intro wz hz
              go_simp
              try with_reducible rfl
            try simp only [Act.put, List.setIfInBounds_toArray, List.set]
            refine WpQ.take (v := ?_) (by rfl) ?_ ?_
            rotate_left
            · intro wz hz
              go_simp
              try with_reducible rfl
            try simp only [Act.put, List.setIfInBounds_toArray, List.set]
            refine WpQ.take (v := ?_) (by rfl) ?_ ?_
            rotate_left
            · intro wz hz
              obtain ⟨b0, b1, b2, b3, b4, b5, b6, b7, q0, q1, q2, q3, q4, q5⟩ := HF.out wz hz
              go_simp
              try with_reducible rfl
            try simp only [Act.put, List.setIfInBounds_toArray, List.set]
            refine WpQ.take (v := .bool true) (by rfl) ?_ ?_
            · intro wz hz
              go_simp
              exact (HSB.out wz hz _ _).mono fun e w' h => ⟨h.1, below_then hz h.2⟩
            try simp only [Act.put, List.setIfInBounds_toArray, List.set]
            refine WpQ.take (v := ?_) (by rfl) ?_ ?_
            rotate_left
            · intro wz hz
              go_simp
              try with_reducible rfl
            try simp only [Act.put, List.setIfInBounds_toArray, List.set]
            refine WpQ.take (v := ?_) (by rfl) ?_ ?_
            rotate_left
            · intro wz hz
              go_simp
              try with_reducible rfl
            try simp only [Act.put, List.setIfInBounds_toArray, List.set]
            refine wpQuiet_nil ?_
            intro wq hwq
            have HB9 := Lib.hid (below_then HB26.out hwq)
            clear hwq
            go_wp2
            go_roundw
            case rel => exact ⟨j + 1, by omega, by go_num, HB9⟩
            case measure => simp [intOf]; omega
          · skip
            have HSB := Lib.hid (fun wz hb => HS2.out wz hb (.slice (if x6c = np then some ⟨gx, ox, none⟩ else some ⟨gx, ox + np, none⟩) nl (x6c - np)) (by have h := HX6.out.back HNP.out; rw [HNL.out] at h; exact (if hq : x6c = np then (by have hz : nl = 0 := (by omega); rw [if_pos hq, hz, List.eq_nil_of_length_eq_zero (HNL.out.trans hz)]; exact ⟨_, _, rfl, Nat.zero_le _, (fun h => by cases h), fun h => absurd h (Nat.lt_irrefl _)⟩) else (by rw [if_neg hq]; exact h))))
            have hnx1 : np ≤ nx := by omega
            have hnx2 : nx - np = nl := by omega
            have hnx3 : np ≤ x6c := by omega
            have hnx4 : (np : Int) ≤ (x6c : Int) := by omega
            have hnx5 : (np : Int) ≤ (nx : Int) := by omega
            clear HX6 HS2 HNP HNL
            go_upto_region 14 with (fail)
            refine wp_region_class (C := fun w' => Below w6.heap.size w6 w') (by kernel_rfl) (by kernel_rfl) ((Below.refl _ _).drew) ?_
            refine WpQ.take (v := ?_) (by rfl) ?_ ?_
            rotate_left
            · intro wz hz
              go_simp
              try with_reducible rfl
            try simp only [Act.put, List.setIfInBounds_toArray, List.set]
            refine WpQ.take (v := ?_) (by rfl) ?_ ?_
            rotate_left
            · intro wz hz
              go_simp
              try with_reducible rfl
            try simp only [Act.put, List.setIfInBounds_toArray, List.set]
            refine WpQ.take (v := ?_) (by rfl) ?_ ?_
            rotate_left
            · intro wz hz
              go_simp
              try with_reducible rfl
            try simp only [Act.put, List.setIfInBounds_toArray, List.set]
            refine WpQ.take (v := ?_) (by rfl) ?_ ?_
            rotate_left
            · intro wz hz
              obtain ⟨b0, b1, b2, b3, b4, b5, b6, b7, q0, q1, q2, q3, q4, q5⟩ := HF.out wz hz
              go_simp
              try with_reducible rfl
            try simp only [Act.put, List.setIfInBounds_toArray, List.set]
            refine WpQ.take (v := ?_) (by rfl) ?_ ?_
            rotate_left
            · intro wz hz
              go_simp
              try with_reducible rfl
            try simp only [Act.put, List.setIfInBounds_toArray, List.set]
            refine WpQ.take (v := ?_) (by rfl) ?_ ?_
            rotate_left
            · intro wz hz
              obtain ⟨b0, b1, b2, b3, b4, b5, b6, b7, q0, q1, q2, q3, q4, q5⟩ := HF.out wz hz
              go_simp
              try with_reducible rfl
            try simp only [Act.put, List.setIfInBounds_toArray, List.set]
            refine WpQ.take (v := ?_) (by rfl) ?_ ?_
            rotate_left
            · intro wz hz
              go_simp
              try with_reducible rfl
            try simp only [Act.put, List.setIfInBounds_toArray, List.set]
            refine WpQ.take (v := ?_) (by rfl) ?_ ?_
            rotate_left
            · intro wz hz
              obtain ⟨b0, b1, b2, b3, b4, b5, b6, b7, q0, q1, q2, q3, q4, q5⟩ := HF.out wz hz
              go_simp
              try with_reducible rfl
            try simp only [Act.put, List.setIfInBounds_toArray, List.set]
            refine WpQ.take (v := ?_) (by rfl) ?_ ?_
            rotate_left
            · intro wz hz
              go_simp
              try with_reducible rfl
            try simp only [Act.put, List.setIfInBounds_toArray, List.set]
            refine WpQ.take (v := ?_) (by rfl) ?_ ?_
            rotate_left
            · intro wz hz
              go_simp
              try with_reducible rfl
            try simp only [Act.put, List.setIfInBounds_toArray, List.set]
            refine WpQ.take (v := ?_) (by rfl) ?_ ?_
            rotate_left
            · intro wz hz
              go_simp
              try with_reducible rfl
            try simp only [Act.put, List.setIfInBounds_toArray, List.set]
            refine WpQ.take (v := ?_) (by rfl) ?_ ?_
            rotate_left
            · intro wz hz
              obtain ⟨b0, b1, b2, b3, b4, b5, b6, b7, q0, q1, q2, q3, q4, q5⟩ := HF.out wz hz
              go_simp
              try with_reducible rfl
            try simp only [Act.put, List.setIfInBounds_toArray, List.set]
            refine WpQ.take (v := ?_) (by rfl) ?_ ?_
            rotate_left
            · intro wz hz
              go_simp
              try with_reducible rfl
            try simp only [Act.put, List.setIfInBounds_toArray, List.set]
            refine WpQ.take (v := ?_) (by rfl) ?_ ?_
            rotate_left
            · intro wz hz
              obtain ⟨b0, b1, b2, b3, b4, b5, b6, b7, q0, q1, q2, q3, q4, q5⟩ := HF.out wz hz
              go_simp
              try with_reducible rfl
            try simp only [Act.put, List.setIfInBounds_toArray, List.set]
            refine WpQ.take (v := .bool true) (by rfl) ?_ ?_
            · intro wz hz
              go_simp
              exact (HTS.out wz hz).mono fun e w' h => ⟨h.1, below_then hz h.2⟩
            try simp only [Act.put, List.setIfInBounds_toArray, List.set]
            refine WpQ.take (v := ?_) (by rfl) ?_ ?_
            rotate_left
            · intro wz hz
              go_simp
              try with_reducible rfl
            try simp only [Act.put, List.setIfInBounds_toArray, List.set]
            refine WpQ.take (v := ?_) (by rfl) ?_ ?_
            rotate_left
            · intro wz hz
              go_simp
              try with_reducible rfl
            try simp only [Act.put, List.setIfInBounds_toArray, List.set]
            refine WpQ.take (v := ?_) (by rfl) ?_ ?_
            rotate_left
            · intro wz hz
              go_simp
              try with_reducible rfl
            try simp only [Act.put, List.setIfInBounds_toArray, List.set]
            refine WpQ.take (v := ?_) (by rfl) ?_ ?_
            rotate_left
            · intro wz hz
              go_simp
              try with_reducible rfl
            try simp only [Act.put, List.setIfInBounds_toArray, List.set]
            refine WpQ.take (v := ?_) (by rfl) ?_ ?_
            rotate_left
            · intro wz hz
              go_simp
              try with_reducible rfl
            try simp only [Act.put, List.setIfInBounds_toArray, List.set]
            refine WpQ.take (v := ?_) (by rfl) ?_ ?_
            rotate_left
            · intro wz hz
              go_simp
              try with_reducible rfl
            try simp only [Act.put, List.setIfInBounds_toArray, List.set]
            refine WpQ.take (v := ?_) (by rfl) ?_ ?_
            rotate_left
            · intro wz hz
              obtain ⟨b0, b1, b2, b3, b4, b5, b6, b7, q0, q1, q2, q3, q4, q5⟩ := HF.out wz hz
              go_simp
              try with_reducible rfl
            try simp only [Act.put, List.setIfInBounds_toArray, List.set]
            refine WpQ.take (v := ?_) (by rfl) ?_ ?_
            rotate_left
            · intro wz hz
              go_simp
              try with_reducible rfl
            try simp only [Act.put, List.setIfInBounds_toArray, List.set]
            refine WpQ.take (v := ?_) (by rfl) ?_ ?_
            rotate_left
            · intro wz hz
              go_simp
              try with_reducible rfl
            try simp only [Act.put, List.setIfInBounds_toArray, List.set]
            refine WpQ.take (v := ?_) (by rfl) ?_ ?_
            rotate_left
            · intro wz hz
              obtain ⟨b0, b1, b2, b3, b4, b5, b6, b7, q0, q1, q2, q3, q4, q5⟩ := HF.out wz hz
              go_simp
              try with_reducible rfl
            try simp only [Act.put, List.setIfInBounds_toArray, List.set]
            refine WpQ.take (v := ?_) (by rfl) ?_ ?_
            rotate_left
            · intro wz hz
              go_simp
              try with_reducible rfl
            try simp only [Act.put, List.setIfInBounds_toArray, List.set]
            refine WpQ.take (v := ?_) (by rfl) ?_ ?_
            rotate_left
            · intro wz hz
              go_simp
              try with_reducible rfl
            try simp only [Act.put, List.setIfInBounds_toArray, List.set]
            refine WpQ.take (v := ?_) (by rfl) ?_ ?_
            rotate_left
            · intro wz hz
              go_simp
              try with_reducible rfl
            try simp only [Act.put, List.setIfInBounds_toArray, List.set]
            refine WpQ.take (v := ?_) (by rfl) ?_ ?_
            rotate_left
            · intro wz hz
              obtain ⟨b0, b1, b2, b3, b4, b5, b6, b7, q0, q1, q2, q3, q4, q5⟩ := HF.out wz hz
              go_simp
              try with_reducible rfl
            try simp only [Act.put, List.setIfInBounds_toArray, List.set]
            refine WpQ.take (v := ?_) (by rfl) ?_ ?_
            rotate_left
            · intro wz hz
              go_simp
              try with_reducible rfl
            try simp only [Act.put, List.setIfInBounds_toArray, List.set]
            refine WpQ.take (v := ?_) (by rfl) ?_ ?_
            rotate_left
            · intro wz hz
              go_simp
              try with_reducible rfl
            try simp only [Act.put, List.setIfInBounds_toArray, List.set]
            refine WpQ.take (v := ?_) (by rfl) ?_ ?_
            rotate_left
            · intro wz hz
              go_simp
              try with_reducible rfl
            try simp only [Act.put, List.setIfInBounds_toArray, List.set]
            refine WpQ.take (v := ?_) (by rfl) ?_ ?_
            rotate_left
            · intro wz hz
              go_simp
              try with_reducible rfl
            try simp only [Act.put, List.setIfInBounds_toArray, List.set]
            refine WpQ.take (v := ?_) (by rfl) ?_ ?_
            rotate_left
            · intro wz hz
              go_simp
              try with_reducible rfl
            try simp only [Act.put, List.setIfInBounds_toArray, List.set]
            refine WpQ.take (v := ?_) (by rfl) ?_ ?_
            rotate_left
            · intro wz hz
              go_simp
              try with_reducible rfl
            try simp only [Act.put, List.setIfInBounds_toArray, List.set]
            refine WpQ.take (v := ?_) (by rfl) ?_ ?_
            rotate_left
            · intro wz hz
              go_simp
              try with_reducible rfl
            try simp only [Act.put, List.setIfInBounds_toArray, List.set]
            refine WpQ.take (v := ?_) (by rfl) ?_ ?_
            rotate_left
            · intro wz hz
              obtain ⟨b0, b1, b2, b3, b4, b5, b6, b7, q0, q1, q2, q3, q4, q5⟩ := HF.out wz hz
              go_simp
              try with_reducible rfl
            try simp only [Act.put, List.setIfInBounds_toArray, List.set]
            refine WpQ.take (v := ?_) (by rfl) ?_ ?_
            rotate_left
            · intro wz hz
              go_simp
              try with_reducible rfl
            try simp only [Act.put, List.setIfInBounds_toArray, List.set]
            refine WpQ.take (v := ?_) (by rfl) ?_ ?_
            rotate_left
            · intro wz hz
              go_simp
              try with_reducible rfl
            try simp only [Act.put, List.setIfInBounds_toArray, List.set]
            refine WpQ.take (v := ?_) (by rfl) ?_ ?_
            rotate_left
            · intro wz hz
              go_simp
              try with_reducible rfl
            try simp only [Act.put, List.setIfInBounds_toArray, List.set]
            refine WpQ.take (v := ?_) (by rfl) ?_ ?_
            rotate_left
            · intro wz hz
              obtain ⟨b0, b1, b2, b3, b4, b5, b6, b7, q0, q1, q2, q3, q4, q5⟩ := HF.out wz hz
              go_simp
              try with_reducible rfl
            try simp only [Act.put, List.setIfInBounds_toArray, List.set]
            refine WpQ.take (v := .bool true) (by rfl) ?_ ?_
            · intro wz hz
              go_simp
              exact (HS1.out wz hz).mono fun e w' h => ⟨h.1, below_then hz h.2⟩
            try simp only [Act.put, List.setIfInBounds_toArray, List.set]
            refine WpQ.take (v := ?_) (by rfl) ?_ ?_
            rotate_left
            · intro wz hz
              go_simp
              try with_reducible rfl
            try simp only [Act.put, List.setIfInBounds_toArray, List.set]
            refine WpQ.take (v := ?_) (by rfl) ?_ ?_
            rotate_left
            · intro wz hz
              go_simp
              try with_reducible rfl
            try simp only [Act.put, List.setIfInBounds_toArray, List.set]
            refine WpQ.take (v := ?_) (by rfl) ?_ ?_
            rotate_left
            · intro wz hz
              go_simp
              try with_reducible rfl
            try simp only [Act.put, List.setIfInBounds_toArray, List.set]
            refine WpQ.take (v := ?_) (by rfl) ?_ ?_
            rotate_left
            · intro wz hz
              go_simp
              try with_reducible rfl
            try simp only [Act.put, List.setIfInBounds_toArray, List.set]
            refine WpQ.take (v := ?_) (by rfl) ?_ ?_
            rotate_left
            · intro wz hz
              go_simp
              try with_reducible rfl
            try simp only [Act.put, List.setIfInBounds_toArray, List.set]
            refine WpQ.take (v := ?_) (by rfl) ?_ ?_
            rotate_left
            · intro wz hz
              obtain ⟨b0, b1, b2, b3, b4, b5, b6, b7, q0, q1, q2, q3, q4, q5⟩ := HF.out wz hz
              go_simp
              try with_reducible rfl
            try simp only [Act.put, List.setIfInBounds_toArray, List.set]
            refine WpQ.take (v := ?_) (by rfl) ?_ ?_
            rotate_left
            · intro wz hz
              go_simp
              try with_reducible rfl
            try simp only [Act.put, List.setIfInBounds_toArray, List.set]
            refine WpQ.take (v := ?_) (by rfl) ?_ ?_
            rotate_left
            · intro wz hz
              go_simp
              try with_reducible rfl
            try simp only [Act.put, List.setIfInBounds_toArray, List.set]
            refine WpQ.take (v := ?_) (by rfl) ?_ ?_
            rotate_left
            · intro wz hz
              go_simp
              try with_reducible rfl
            try simp only [Act.put, List.setIfInBounds_toArray, List.set]
            refine WpQ.take (v := ?_) (by rfl) ?_ ?_
            rotate_left
            · intro wz hz
              obtain ⟨b0, b1, b2, b3, b4, b5, b6, b7, q0, q1, q2, q3, q4, q5⟩ := HF.out wz hz
              go_simp
              try with_reducible rfl
            try simp only [Act.put, List.setIfInBounds_toArray, List.set]
            refine WpQ.take (v := ?_) (by rfl) ?_ ?_
            rotate_left
            · intro wz hz
              go_simp
              try with_reducible rfl
            try simp only [Act.put, List.setIfInBounds_toArray, List.set]
            refine WpQ.take (v := ?_) (by rfl) ?_ ?_
            rotate_left
            · intro wz hz
              go_simp
              try with_reducible rfl
            try simp only [Act.put, List.setIfInBounds_toArray, List.set]
            refine WpQ.take (v := ?_) (by rfl) ?_ ?_
            rotate_left
            · intro wz hz
              go_simp
              try with_reducible rfl
            try simp only [Act.put, List.setIfInBounds_toArray, List.set]
            refine WpQ.take (v := ?_) (by rfl) ?_ ?_
            rotate_left
            · intro wz hz
              obtain ⟨b0, b1, b2, b3, b4, b5, b6, b7, q0, q1, q2, q3, q4, q5⟩ := HF.out wz hz
              go_simp
              try with_reducible rfl
            try simp only [Act.put, List.setIfInBounds_toArray, List.set]
            refine WpQ.take (v := .bool true) (by rfl) ?_ ?_
            · intro wz hz
              go_simp
              exact (HSB.out wz hz).mono fun e w' h => ⟨h.1, below_then hz h.2⟩
            try simp only [Act.put, List.setIfInBounds_toArray, List.set]
            refine WpQ.take (v := ?_) (by rfl) ?_ ?_
            rotate_left
            · intro wz hz
              go_simp
              try with_reducible rfl
            try simp only [Act.put, List.setIfInBounds_toArray, List.set]
            refine WpQ.take (v := ?_) (by rfl) ?_ ?_
            rotate_left
            · intro wz hz
              go_simp
              try with_reducible rfl
            try simp only [Act.put, List.setIfInBounds_toArray, List.set]
            refine wpQuiet_nil ?_
            intro wq hwq
            have HB9 := Lib.hid (below_then HB26.out hwq)
            clear hwq
            go_wp2
            go_roundw
            case rel => exact ⟨j + 1, by omega, by go_num, HB9⟩
            case measure => simp [intOf]; omega
        · have hd0 : decide ((j : Int) < (n2 : Int)) = false := by simp; omega
          have HB2 := Lib.hid HB.out
          clear HFU HB
          go_wp2_with fail
          go_loopw [143] (fun i wr => ∃ j : Nat, j ≤ n0 ∧ i = .int .i64 (j : Int) ∧ Hid (Below w2.heap.size w2 wr)) (fun i _ => n0 - (intOf i).toNat)
          case atStart => exact ⟨0, Nat.zero_le _, rfl, HB2⟩
          case round =>
            clear b0 b1 b2 b3 b4 b5 b6 b7 hd0 HB13 HB2 hj hlt
            obtain ⟨j, hj, rfl, HB⟩ := hrel
            obtain ⟨w3, rfl⟩ : ∃ w3, w3 = wr := ⟨_, rfl⟩
            have HB13 := Lib.hid (below_then HB12.out HB.out)
            obtain ⟨b0, b1, b2, b3, b4, b5, b6, b7⟩ := HBX.out w3 HB.out
            by_cases hlt : j < n0
            · have hd0 : decide ((j : Int) < (n0 : Int)) = true := by simp; omega
              obtain ⟨t, Ap, cp, Ar, cr, hblk, hty⟩ := HTY.out j hlt
              have HQ := Lib.hid (HBL.out w3 HB13.out (j : Int))
              rw [hblk] at HQ
              clear hblk
              have HTA := Lib.hid hty
              clear hty
              go_wp2_with fail
              go_at_call 9
              refine HQ.out.mono ?_
              rintro e w4 ⟨p', r', rfl, hi1, hi2, hb4⟩
              obtain ⟨P1, e1, hq1', _, _⟩ := hi1.form
              obtain ⟨P2, e2, hq2', _, _⟩ := hi2.form
              rw [hq1'] at hi1 ⊢
              rw [hq2'] at hi2 ⊢
              simp only [Option.getD_some, Option.isSome_some] at hi1 hi2 ⊢
              have HI1 := Lib.hid (hi1.keep (K' := fun k => k < w4.heap.size) (Keeps.refl _ _) fun k hk => hk.elim False.elim fun h => h.2)
              have HI2 := Lib.hid (hi2.keep (K' := fun k => k < w4.heap.size) (Keeps.refl _ _) fun k hk => hk.elim False.elim fun h => h.2)
              have HB34 := Lib.hid hb4
              clear hi1 hi2 hb4 hq1' hq2'
              clear b0 b1 b2 b3 b4 b5 b6 b7 HQ
              have HB5 := Lib.hid (below_new (below_then HB.out HB34.out) (.cells #[.slice P1 t.1.length e1, .slice P2 t.2.length e2] 35))
              obtain ⟨W, hW⟩ : ∃ W, W = w4.alloc (.cells #[.slice P1 t.1.length e1, .slice P2 t.2.length e2] 35) := ⟨_, rfl⟩
              have hbw : Below w4.heap.size w4 W := by rw [hW]; exact (Below.refl _ _).alloc (Nat.le_refl _) _
              have hv : ∀ i, W.cell? ⟨w4.heap.size, i, none⟩ = (#[.slice P1 t.1.length e1, .slice P2 t.2.length e2] : Array Value)[i]? := fun i => by rw [hW]; exact World.cell?_alloc_new w4 _ _ i
              have hv0 := hv 0
              have hv1 := hv 1
              simp only [List.getElem?_toArray, List.getElem?_cons_zero, List.getElem?_cons_succ] at hv0 hv1
              rw [← hW] at HB5
              have HB1W := Lib.hid (below_then HB13.out (below_then HB34.out hbw))
              have HF : Hid (∀ wz, Below W.heap.size W wz → (fun w' => w'.cell? ⟨M, 0, none⟩ = some (.slice (some ⟨g0, o0, none⟩) n0 c0) ∧ w'.cell? ⟨M, 1, none⟩ = some (.slice (some ⟨g1, o1, none⟩) n1 c1) ∧ w'.cell? ⟨M, 2, none⟩ = some (.slice (some ⟨g2, o2, none⟩) n2 c2) ∧ w'.cell? ⟨M, 3, none⟩ = some (.slice A3 n3 c3) ∧ w'.cell? ⟨M, 4, none⟩ = some (.slice A4 n4 c4) ∧ w'.cell? ⟨M, 5, none⟩ = some (.slice A5 n5 c5) ∧ w'.cell? ⟨M, 6, none⟩ = some (.slice A6 n6 c6) ∧ w'.cell? ⟨M, 7, none⟩ = some (.slice A7 n7 c7) ∧ w'.cell? ⟨w4.heap.size, 0, none⟩ = some (.slice P1 t.1.length e1) ∧ w'.cell? ⟨w4.heap.size, 1, none⟩ = some (.slice P2 t.2.length e2) ∧ w'.cell? ⟨g0, o0 + j * 2, none⟩ = some (.slice Ap t.1.length cp) ∧ w'.cell? ⟨g0, o0 + j * 2 + 1, none⟩ = some (.slice Ar t.2.length cr)) wz) := Lib.hid fun wz hb => by
                obtain ⟨b0, b1, b2, b3, b4, b5, b6, b7⟩ := HBX.out wz (below_then (below_then HB.out (below_then HB34.out hbw)) hb)
                have hty := HTA.out.below (Nat.le_refl _) (below_then HB1W.out hb)
                exact ⟨b0, b1, b2, b3, b4, b5, b6, b7, (hb.cell (p := ⟨w4.heap.size, 0, none⟩) (World.block_lt_of_cell? _ _ hv0)).trans hv0, (hb.cell (p := ⟨w4.heap.size, 1, none⟩) (World.block_lt_of_cell? _ _ hv1)).trans hv1, hty.c0, hty.c1⟩
              have HTS := Lib.hid (fun wz (hb : Below W.heap.size W wz) => types_same (HTA.out.below (Nat.le_refl _) (below_then HB1W.out hb)) (below_then HB1W.out hb).size (HI1.out.keep (Keeps.below (below_then hbw hb) fun _ hk => hk) fun _ hk => Nat.lt_of_lt_of_le hk (below_then hbw hb).size) (HI2.out.keep (Keeps.below (below_then hbw hb) fun _ hk => hk) fun _ hk => Nat.lt_of_lt_of_le hk (below_then hbw hb).size))
              have hj1 : (0 : Int) ≤ (j : Int) ∧ (j : Int) < (n0 : Int) := by omega
              go_upto_region 21 with (fail)
              rw [← hW]
              clear hW hv0 hv1 hv hbw HTA HI1 HI2
              refine wp_region_class (C := fun w' => Below W.heap.size W w') (by kernel_rfl) (by kernel_rfl) ((Below.refl _ _).drew) ?_
              refine WpQ.take (v := ?_) (by rfl) ?_ ?_
              rotate_left
              · intro wz hz
                go_simp
                try with_reducible rfl
              try simp only [Act.put, List.setIfInBounds_toArray, List.set]
              refine WpQ.take (v := ?_) (by rfl) ?_ ?_
              rotate_left
              · intro wz hz
                go_simp
                try with_reducible rfl
              try simp only [Act.put, List.setIfInBounds_toArray, List.set]
              refine WpQ.take (v := ?_) (by rfl) ?_ ?_
              rotate_left
              · intro wz hz
                go_simp
                try with_reducible rfl
              try simp only [Act.put, List.setIfInBounds_toArray, List.set]
              refine WpQ.take (v := ?_) (by rfl) ?_ ?_
              rotate_left
              · intro wz hz
                obtain ⟨b0, b1, b2, b3, b4, b5, b6, b7, q0, q1, q2, q3⟩ := HF.out wz hz
                go_simp
                try with_reducible rfl
              try simp only [Act.put, List.setIfInBounds_toArray, List.set]
              refine WpQ.take (v := ?_) (by rfl) ?_ ?_
              rotate_left
              · intro wz hz
                go_simp
                try with_reducible rfl
              try simp only [Act.put, List.setIfInBounds_toArray, List.set]
              refine WpQ.take (v := ?_) (by rfl) ?_ ?_
              rotate_left
              · intro wz hz
                obtain ⟨b0, b1, b2, b3, b4, b5, b6, b7, q0, q1, q2, q3⟩ := HF.out wz hz
                go_simp
                try with_reducible rfl
              try simp only [Act.put, List.setIfInBounds_toArray, List.set]
              refine WpQ.take (v := ?_) (by rfl) ?_ ?_
              rotate_left
              · intro wz hz
                go_simp
                try with_reducible rfl
              try simp only [Act.put, List.setIfInBounds_toArray, List.set]
              refine WpQ.take (v := ?_) (by rfl) ?_ ?_
              rotate_left
              · intro wz hz
                go_simp
                try with_reducible rfl
              try simp only [Act.put, List.setIfInBounds_toArray, List.set]
              refine WpQ.take (v := ?_) (by rfl) ?_ ?_
              rotate_left
              · intro wz hz
                obtain ⟨b0, b1, b2, b3, b4, b5, b6, b7, q0, q1, q2, q3⟩ := HF.out wz hz
                go_simp
                try with_reducible rfl
              try simp only [Act.put, List.setIfInBounds_toArray, List.set]
              refine WpQ.take (v := .bool true) (by rfl) ?_ ?_
              · intro wz hz
                go_simp
                exact (HTS.out wz hz).mono fun e w' h => ⟨h.1, below_then hz h.2⟩
              try simp only [Act.put, List.setIfInBounds_toArray, List.set]
              refine WpQ.take (v := ?_) (by rfl) ?_ ?_
              rotate_left
              · intro wz hz
                go_simp
                try with_reducible rfl
              try simp only [Act.put, List.setIfInBounds_toArray, List.set]
              refine WpQ.take (v := ?_) (by rfl) ?_ ?_
              rotate_left
              · intro wz hz
                go_simp
                try with_reducible rfl
              try simp only [Act.put, List.setIfInBounds_toArray, List.set]
              refine wpQuiet_nil ?_
              intro wq hwq
              have HB9 := Lib.hid (below_then HB5.out hwq)
              clear hwq
              go_wp2
              go_roundw
              case rel => exact ⟨j + 1, by omega, by go_num, HB9⟩
              case measure => simp [intOf]; omega
            · have hd0 : decide ((j : Int) < (n0 : Int)) = false := by simp; omega
              obtain ⟨n12, hn12⟩ : ∃ n, n1 + n2 = n := ⟨_, rfl⟩
              have dw : IntKind.i64.wrap ((n1 : Int) + (n2 : Int)) = (n12 : Int) := by rw [show (n1 : Int) + (n2 : Int) = (n12 : Int) by omega]; exact IntWalk.i64_in _ (by omega)
              have HQ := Lib.hid (HSG.out w3 HB13.out ((n1 : Int) + (n2 : Int)) (by omega))
              rw [HSN.out, show (n1 : Int) + (n2 : Int) = (n12 : Int) by omega] at HQ
              clear hn12 HTY
              go_wp2_with fail
              go_at_call 5
              refine HQ.out.mono ?_
              rintro e w6 ⟨p1', r1', rfl, hi1, hi2, hb4⟩
              obtain ⟨P1a, e1a, hq1', _, _⟩ := hi1.form
              obtain ⟨P1b, e1b, hq2', _, _⟩ := hi2.form
              rw [hq1', hq2']
              simp only [Option.getD_none, Option.isSome_none, List.length_nil]
              have HBN1 := Lib.hid hb4
              clear hi1 hi2 hb4 hq1' hq2'
              have hb26 := below_new (below_then HB.out HBN1.out) (.cells #[.slice P1a 0 e1a, .slice P1b 0 e1b] 35)
              have hb16 := below_new (below_then HB13.out HBN1.out) (.cells #[.slice P1a 0 e1a, .slice P1b 0 e1b] 35)
              obtain ⟨w7, hw7⟩ : ∃ w7, w7 = w6.alloc (.cells #[.slice P1a 0 e1a, .slice P1b 0 e1b] 35) := ⟨_, rfl⟩
              rw [← hw7] at hb26 hb16
              clear b0 b1 b2 b3 b4 b5 b6 b7 HQ
              obtain ⟨b0, b1, b2, b3, b4, b5, b6, b7⟩ := HBX.out w7 hb26
              have HQ2 := Lib.hid (HBL.out w7 hb16 (n0 : Int))
              rw [HBN.out] at HQ2
              have HB27 := Lib.hid hb26
              clear hb26 hb16
              go_upto_region 25 with (fail)
              rw [← hw7]
              clear hw7
              go_wp2_with fail
              go_at_call 9
              refine HQ2.out.mono ?_
              rintro e w8 ⟨p2', r2', rfl, hi1, hi2, hb4⟩
              obtain ⟨P2a, e2a, hq1', _, _⟩ := hi1.form
              obtain ⟨P2b, e2b, hq2', _, _⟩ := hi2.form
              rw [hq1', hq2']
              simp only [Option.getD_none, Option.isSome_none, List.length_nil]
              have HBN2 := Lib.hid hb4
              clear hi1 hi2 hb4 hq1' hq2'
              have HBW := Lib.hid (below_then HB1.out (below_new (below_then HB27.out HBN2.out) (.cells #[.slice P2a 0 e2a, .slice P2b 0 e2b] 35)))
              have HKN := Lib.hid (HT.out _ HBW.out)
              clear b0 b1 b2 b3 b4 b5 b6 b7 HQ2
              go_wp2_with fail
              go_at_call 10
              refine HKN.out.mono ?_
              rintro e w9 ⟨rfl, hb9⟩
              go_wp2
              go_ret
              exact ⟨rfl, below_then HBW.out hb9⟩
end Go.Proofs.YtinljaobdnkifaaDoor
