/-
  Contract of the document's Of.
-/
import Derived.Test.YthofjcbdmdblpaaMof
import Derived.Test.YthofjcbdmdblpaaOir
namespace Go.Proofs.Ythofjcbdmdblpaa
open Go.RowKit

theorem Try.infoRSpan : (Try.prog.info? 57).map (fun i => (i.zero, i.size, i.bytes)) = some (some (.agg #[.int .i64 0, .int .i64 0, .int .i64 0]), 3, 24) := by kernel_rfl
theorem matchP_fell {ops : List Int} {n k : Nat} (hn : ops.length = n) (hk : k < n) (h : mrun ops (-1) (k + 1) = none) (hx : ops.getD k 0 ≠ 11 ∨ k + 1 < n) : matchP ops = ([], 12) := by
  rw [matchP_any ops (-1), hn]
  by_cases h1 : k + 1 < n
  · rw [mrun_none h (n - 1) (by omega)]
    split <;> rfl
  · rw [if_pos (.inr (by rw [show n - 1 = k by omega]; rcases hx with hx | hx; exact hx; omega))]
theorem matchP_open {ops : List Int} {n : Nat} {s : MSt} (hn : ops.length = n) (h : mrun ops (-1) n = some s) : matchP ops = ([], 12) := by
  rw [matchP_any ops (-1), hn]
  rcases Nat.eq_zero_or_pos n with rfl | h0
  · rw [if_pos (.inl rfl)]
  · obtain ⟨l, rfl⟩ : ∃ l, n = l + 1 := ⟨n - 1, by omega⟩
    rw [Nat.add_sub_cancel]
    have h' : (mrun ops (-1) l).bind (mstep ops (-1) l) = some s := h
    by_cases h11 : ops.getD l 0 = 11
    · rw [if_neg (by rw [h11]; simp)]
      cases hr : mrun ops (-1) l with
      | none => rfl
      | some t =>
        rw [hr] at h'
        have h2 : mstep ops (-1) l t = some s := h'
        simp only
        rw [if_pos fun e => by rw [mstep_none ⟨.inr h11, e⟩] at h2; cases h2]
    · rw [if_pos (.inr h11)]
theorem matchP_done {ops : List Int} {l : Nat} {s : MSt} (hn : ops.length = l + 1) (h11 : ops.getD l 0 = 11) (h : mrun ops (-1) l = some s) (h0 : s.op.length = 0) : matchP ops = if 64 < s.deep then ([], 26) else (s.out, 0) := by
  rw [matchP_any ops (-1), hn, Nat.add_sub_cancel, if_neg (by rw [h11]; simp), h]
  simp only
  rw [if_neg (by simp [List.eq_nil_of_length_eq_zero h0])]

set_option maxRecDepth 100000 in
set_option maxHeartbeats 2000000 in
theorem rof_any (w : World) (A : Option Addr) (n c : Nat) (ops : List Int) (hc : CodeAt w A n ops) (hn : ops.length = n) (hm : n ≤ 900000) :
    Calls Try.prog 13 #[.slice A n c] w (OfPost ops w) := by
  have HC := Lib.hid hc
  have HN := Lib.hid hn
  clear hc hn
  go_enter Try.func13, Try.ntmps13
  go_wp2_with fail
  go_loopw [4, 5, 6, 7] (fun sp op dp i wr => ∃ (k : Nat) (s : MSt) (db : Bool), k ≤ n ∧ i = .int .i64 (k : Int) ∧ Hid (mrun ops (-1) k = some s) ∧ Hid (Two 57 w wr sp op s) ∧ dp = .bool db ∧ Hid (db = decide (64 < s.deep))) (fun _ _ _ i _ => n - (intOf i).toNat)
  case atStart => exact ⟨0, ⟨[], [], 0⟩, false, Nat.zero_le _, rfl, Lib.hid rfl, Lib.hid ⟨World.ownsRow_nil _ _ _ _, World.ownsRow_nil _ _ _ _, (fun g h => by cases h), (fun g h => by cases h), Below.refl _ _⟩, rfl, Lib.hid rfl⟩
  case round =>
    obtain ⟨k, s, db, hk, rfl, HR, HT, rfl, HDP⟩ := hrel
    have HV := Lib.hid (mrun_inv _ _ _ _ HR.out)
    obtain ⟨As, cs, rfl⟩ := owns_slice HT.out.so
    obtain ⟨Ap, cp, rfl⟩ := owns_slice HT.out.po
    have hol : s.op.length ≤ s.out.length := HV.out.opl
    have hsl : s.out.length ≤ k := HV.out.outl
    by_cases hlt : k < n
    case' neg =>
      obtain rfl : k = n := by omega
      have hd0 : decide ((k : Int) < (k : Int)) = false := by simp
      have HM := Lib.hid (matchP_open HN.out HR.out)
      go_wp2
      go_ret2
      exact of_bad HM.out HT.out.bel
    have hd0 : decide ((k : Int) < (n : Int)) = true := by simp; omega
    obtain ⟨g, o, rfl, hg, hcell⟩ := (HC.out.below HT.out.bel) (by omega)
    obtain ⟨_, _, _, _, _, _, k0, _⟩ := hcell k hlt
    obtain ⟨X, hX⟩ : ∃ X, ops.getD k 0 = X := ⟨_, rfl⟩
    rw [hX] at k0
    have HX := Lib.hid hX
    clear hX
    have HSU := Lib.hid (mrun_succ HR.out)
    have HOP := Lib.hid (fun wz => ropens_any X wz)
    have HOX := Lib.hid (show opensB (ops.getD k 0) = opensB X by rw [HX.out])
    have HCELL := Lib.hid hcell
    clear hcell
    go_wp2_with fail
    go_at_call 25
    refine (HOP.out _).mono ?_
    rintro e w' ⟨rfl, rfl⟩
    clear HOP k0
    generalize hob : opensB X = ob at HOX ⊢
    have HOB := Lib.hid hob
    clear hob
    cases ob
    case' true =>
      have HN2 := Lib.hid (HSU.out.trans (mstep_open HOX.out))
      clear HSU
      have hdd : ∀ b : Bool, b = db → (b || decide ((64 : Int) < ((s.op.length : Int) + 1))) = decide (64 < max s.deep (s.op.length + 1)) := fun b hb => by
        rw [hb, HDP.out]
        by_cases h1 : 64 < s.deep
        · rw [show decide (64 < s.deep) = true from decide_eq_true h1, Bool.true_or]; symm; exact decide_eq_true (by omega)
        · rw [show decide (64 < s.deep) = false from decide_eq_false h1, Bool.false_or]
          by_cases h2 : 64 < s.op.length + 1
          · rw [decide_eq_true (by omega), decide_eq_true (by omega)]
          · rw [decide_eq_false (by omega), decide_eq_false (by omega)]
      have HDD := Lib.hid hdd
      clear hdd
      cases db
      all_goals
        go_wp2_with (at_builtin; first
          | (refine wpList_append_row rfl (.tmp 24) (.tmp 27) 22 3 rfl _ 1 8 Try.underlying22 Try.infoInt rfl (by decide) (by decide) (.slice Ap s.op.length cp) s.op.length (s.op.map natV) (by rfl) ((HT.out.alloc _).po) _ 1 [natV s.out.length] (by rfl) (by rfl) (news_new wr _ _ 1 1) (by simp [natV, Value.oneCell']) (by omega) ?_; intro v1 wa ho1 hg1 ha1; obtain ⟨q1, q2, q3, q4⟩ := (HT.out.alloc _).pushP hg1 ha1; have Q1 := Lib.hid q1; have Q2 := Lib.hid q2; have Q3 := Lib.hid q3; have Q4 := Lib.hid q4; clear q1 q2 q3 q4; obtain ⟨B1, c1, rfl⟩ := owns_slice ho1)
          | (refine wpList_append_row rfl (.tmp 29) (.tmp 32) 54 57 rfl _ 3 24 Try.underlying54 Try.infoRSpan rfl (by decide) (by decide) (.slice As s.out.length cs) s.out.length (flatS s.out) (by rfl) (Q1.out.alloc _) _ 1 (spCells ((k : Int), -1, -1)) (by rfl) (by rfl) (news_new wa _ _ 1 1) (by simp [spCells, Value.oneCell']) (by omega) ?_; intro v2 wb ho2 hg2 ha2; obtain ⟨B2, c2, rfl⟩ := owns_slice ho2))
        go_roundw
        case rel =>
          refine ⟨k + 1, ⟨s.out ++ [((k : Int), -1, -1)], s.op ++ [s.out.length], max s.deep (s.op.length + 1)⟩, _, by omega, by go_num, HN2, Lib.hid (Two.pushS (ho1.alloc _) Q2.out Q3.out ((below_new Q4.out _)) ho2 hg2 ha2 _ (by simp) (flatS_snoc _ _) (by simp) (by simp)), rfl, ?_⟩
          have := HDD.out _ rfl
          exact this
        case measure => simp [intOf]; omega
    have hX5 : X = 5 ∨ X = 11 ∨ (X ≠ 5 ∧ X ≠ 11) := by omega
    rcases hX5 with rfl | rfl | ⟨hn5, hn11⟩
    case' inr.inr =>
      have HN2 := Lib.hid (HSU.out.trans (mstep_other HOX.out (by rw [HX.out]; exact hn5) (by rw [HX.out]; exact hn11)))
      have d5 : (X == 5) = false := by simpa using hn5
      have d11 : (X == 11) = false := by simpa using hn11
      clear hn5 hn11
      go_wp2
      go_roundw
      case rel => exact ⟨k + 1, s, db, by omega, by go_num, HN2, HT, rfl, HDP⟩
      case measure => simp [intOf]; omega
    all_goals
      obtain ⟨no, hno⟩ : ∃ no, s.op.length = no := ⟨_, rfl⟩
      rw [hno] at HT hol ⊢
      have HNO := Lib.hid hno
      clear hno
      rcases Nat.eq_zero_or_pos no with h0 | h0
    case' false.inl.inl =>
      subst h0
      have HM := Lib.hid (matchP_fell HN.out hlt (HSU.out.trans (mstep_none ⟨by rw [HX.out]; simp, List.eq_nil_of_length_eq_zero HNO.out⟩)) (.inl (by rw [HX.out]; simp)))
      go_wp2
      go_ret2
      exact of_bad HM.out HT.out.bel
    case' false.inr.inl.inl =>
      subst h0
      have HN0 : Hid (mrun ops (-1) (k + 1) = none) := Lib.hid (HSU.out.trans (mstep_none ⟨by rw [HX.out]; simp, List.eq_nil_of_length_eq_zero HNO.out⟩))
      by_cases hkn : k + 1 < n
      · have HM := Lib.hid (matchP_fell HN.out hlt HN0.out (.inr hkn))
        have hd1 : ((k : Int) != (n : Int) - 1) = true := by simp; omega
        go_wp2
        go_ret2
        exact of_bad HM.out HT.out.bel
      · have HM := Lib.hid (matchP_done (l := k) (by rw [HN.out]; omega) HX.out HR.out HNO.out)
        obtain rfl : n = k + 1 := by omega
        have HO := Lib.hid (SpIn.owned HT.out.so (by omega))
        by_cases h64 : 64 < s.deep
        · have hm2 := HM.out
          rw [if_pos h64] at hm2
          obtain rfl : db = true := by rw [HDP.out]; exact decide_eq_true h64
          have HM2 := Lib.hid hm2
          clear hm2 h64 HM HDP
          go_wp2
          go_ret2
          exact of_bad HM2.out HT.out.bel
        · have hm2 := HM.out
          rw [if_neg h64] at hm2
          obtain rfl : db = false := by rw [HDP.out]; exact decide_eq_false h64
          have HM2 := Lib.hid hm2
          clear hm2 h64 HM HDP
          go_wp2
          go_ret2
          exact ⟨.slice As s.out.length cs, by rw [HM2.out]; rfl, by rw [HM2.out]; exact HO.out, HT.out.bel⟩
    all_goals
      obtain ⟨t, j, htj, htl⟩ := list_end (l := s.op) (by rw [HNO.out]; exact h0)
      obtain ⟨tl, rfl⟩ : ∃ tl, no = tl + 1 := ⟨no - 1, by omega⟩
      have htl2 : t.length = tl := by have := HNO.out; omega
      have hjs : j < s.out.length := HV.out.lt j (by rw [htj]; simp)
      obtain ⟨ha0, hak⟩ := HV.out.a0 j hjs
      obtain ⟨an, hne⟩ : ∃ an : Nat, (spAt s.out j).1 = (an : Int) := ⟨(spAt s.out j).1.toNat, by omega⟩
      have ham : an < n := by omega
      obtain ⟨gp, cp, hpe⟩ : ∃ gp cp', Value.slice Ap (tl + 1) cp = .slice (some ⟨gp, 0, none⟩) (tl + 1) cp' := by
        rcases HT.out.po.2 with ⟨h, _⟩ | ⟨gp, cap, cur, h, _⟩
        · cases h
        · simp only [Value.slice.injEq] at h
          obtain ⟨rfl, -, rfl⟩ := h
          exact ⟨gp, _, rfl⟩
      obtain ⟨gs, cs', hse⟩ : ∃ gs cs', Value.slice As s.out.length cs = .slice (some ⟨gs, 0, none⟩) s.out.length cs' := by
        rcases HT.out.so.2 with ⟨h, h2⟩ | ⟨gp, cap, cur, h, _⟩
        · simp only [Value.slice.injEq] at h; omega
        · simp only [Value.slice.injEq] at h
          obtain ⟨rfl, -, rfl⟩ := h
          exact ⟨gp, _, rfl⟩
      simp only [Value.slice.injEq] at hpe hse
      obtain ⟨rfl, -, rfl⟩ := hpe
      obtain ⟨rfl, -, rfl⟩ := hse
      have HCL : Hid (∀ wz, Below wr.heap.size wr wz → wz.cell? ⟨gp, tl, none⟩ = some (.int .i64 (j : Int)) ∧ wz.cell? ⟨gs, j * 3, none⟩ = some (.int .i64 (an : Int)) ∧ wz.cell? ⟨gs, j * 3 + 1, none⟩ = some (.int .i64 (spAt s.out j).2.1) ∧ wz.cell? ⟨gs, j * 3 + 2, none⟩ = some (.int .i64 (spAt s.out j).2.2) ∧ wz.frozen? ⟨gs, j * 3 + 1, none⟩ = false ∧ wz.frozen? ⟨gs, j * 3 + 2, none⟩ = false) := fun wz hz => by
        have h2 := HT.out.below hz
        obtain ⟨f1, f2, f3⟩ := flatS_at s.out j hjs
        have hp := h2.po
        rw [HNO.out] at hp
        refine ⟨?_, ?_, ?_, ?_, h2.so.frozenAt _, h2.so.frozenAt _⟩
        · rw [hp.cellAt tl (by omega), htj, ← htl2]; simp [natV]
        · rw [h2.so.cellAt _ (by omega), f1, hne]
        · rw [h2.so.cellAt _ (by omega), f2]
        · rw [h2.so.cellAt _ (by omega), f3]
      have HJS := Lib.hid hjs
      have HTJ := Lib.hid htj
      have HTL := Lib.hid htl2
      have HNE := Lib.hid hne
      clear htj htl htl2 hne h0 ha0 hak
      obtain ⟨kp, ka, ke, kz, kf, kg⟩ := HCL.out wr (Below.refl _ _)
      obtain ⟨ev, hev⟩ : ∃ ev, (spAt s.out j).2.1 = ev := ⟨_, rfl⟩
      obtain ⟨zv, hzv⟩ : ∃ zv, (spAt s.out j).2.2 = zv := ⟨_, rfl⟩
      rw [hev] at ke
      rw [hzv] at kz
      have HEV := Lib.hid hev
      have HZV := Lib.hid hzv
      clear hev hzv
    case' false.inl.inr =>
      obtain ⟨_, _, _, _, _, _, kc, _⟩ := HCELL.out an ham
      obtain ⟨Y, hY⟩ : ∃ Y, ops.getD an 0 = Y := ⟨_, rfl⟩
      rw [hY] at kc
      have HY := Lib.hid hY
      clear hY
      have hee := HV.out.ee j HJS.out
      rw [HEV.out] at hee
      have heven : ev = -1 ∨ 0 ≤ ev := by have := HV.out.a0 j HJS.out; omega
      clear hee
      have HDB : Hid ((ops.getD (spAt s.out j).1.toNat 0 = 4 ∧ (spAt s.out j).2.1 = -1) = (Y = 4 ∧ ev = -1)) := by rw [Hid, HNE.out, HEV.out, Int.toNat_natCast, HY.out]
      clear kg kz
      by_cases h4 : Y = 4 ∧ ev = -1
      case' neg =>
        have HM := Lib.hid (matchP_fell HN.out hlt (HSU.out.trans (mstep_bad HX.out HTJ.out (decide_eq_false (by rw [HDB.out]; exact h4)))) (.inl (by rw [HX.out]; simp)))
        by_cases h5 : Y = 4
        · have d1 : (Y != 4) = false := by simpa using h5
          have d2 : decide (0 ≤ ev) = true := by simp; omega
          clear h4 h5
          go_wp2
          go_ret2
          exact of_bad HM.out HT.out.bel
        · have d1 : (Y != 4) = true := by simpa using h5
          clear h4 h5
          go_wp2
          go_ret2
          exact of_bad HM.out HT.out.bel
      have HN2 := Lib.hid (HSU.out.trans (mstep_else HX.out HTJ.out (decide_eq_true (by rw [HDB.out]; exact h4))))
      have HPO := Lib.hid (HT.out.po)
      obtain ⟨rfl, rfl⟩ := h4
      go_wp2
      go_roundw
      case rel =>
        refine ⟨k + 1, _, db, by omega, by go_num, HN2, Lib.hid (HT.out.put (j * 3 + 1) (.int .i64 (k : Int)) (by simp) (flatS_set s.out j (k : Int) 0 HJS.out).1 rfl HPO.out), rfl, HDP⟩
      case measure => simp [intOf]; omega
    have HN2 := Lib.hid (HSU.out.trans (mstep_end HX.out HTJ.out))
    have HPO : Hid (wr.ownsRow 0 3 1 (.slice (some ⟨gp, 0, none⟩) tl cp) t.length (t.map natV)) := by
      have h1 := HT.out.po
      rw [HNO.out] at h1
      have h2 := owns_cut h1 (Nat.le_succ tl)
      rw [HTJ.out, List.map_append, Nat.mul_one, ← HTL.out, ← List.length_map (f := natV), List.take_left, List.length_map, HTL.out] at h2
      rw [HTL.out]; exact h2
    have htc : tl ≤ cp := by
      rcases HT.out.po.2 with ⟨h, _⟩ | ⟨gp', cap, cur, h, _, _, h3, _⟩
      · cases h
      · simp only [Value.slice.injEq] at h
        obtain ⟨_, _, rfl⟩ := h
        rw [HNO.out] at h3
        omega
    clear kf
    go_wp2
    go_roundw
    case rel =>
      refine ⟨k + 1, _, db, by omega, by go_num, HN2, Lib.hid (HT.out.put (j * 3 + 2) (.int .i64 (k : Int)) (by simp) (flatS_set s.out j 0 (k : Int) HJS.out).2 rfl HPO.out), rfl, HDP⟩
    case measure => simp [intOf]; omega
end Go.Proofs.Ythofjcbdmdblpaa
