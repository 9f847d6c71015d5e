/- A part of the proof. -/
import Derived.Test.YteohmkceapblkaaDoorJ28
namespace Go.Proofs.YteohmkceapblkaaDoor
section
open Go.RowKit
def SpIn (w : World) (v : Value) (l : List Sp) : Prop :=
  ∃ A c, v = .slice A l.length c ∧ l.length ≤ 950000 ∧ (0 < l.length → ∃ g, A = some ⟨g, 0, none⟩ ∧ g < w.heap.size ∧ ∀ j, j < l.length → w.cell? ⟨g, j * 3, none⟩ = some (.int .i64 (spAt l j).1) ∧ w.cell? ⟨g, j * 3 + 1, none⟩ = some (.int .i64 (spAt l j).2.1) ∧ w.cell? ⟨g, j * 3 + 2, none⟩ = some (.int .i64 (spAt l j).2.2))
theorem SpIn.below {w w' : World} {v : Value} {l : List Sp} (h : SpIn w v l) (hb : Below w.heap.size w w') : SpIn w' v l := by
  obtain ⟨A, c, rfl, h1, h2⟩ := h
  refine ⟨A, c, rfl, h1, fun h0 => ?_⟩
  obtain ⟨g, rfl, hg, hc⟩ := h2 h0
  refine ⟨g, rfl, Nat.lt_of_lt_of_le hg hb.size, fun j hj => ?_⟩
  obtain ⟨a, b, c⟩ := hc j hj
  exact ⟨(hb.cell (p := ⟨g, j * 3, none⟩) hg).trans a, (hb.cell (p := ⟨g, j * 3 + 1, none⟩) hg).trans b, (hb.cell (p := ⟨g, j * 3 + 2, none⟩) hg).trans c⟩
theorem SpIn.nil (w : World) : SpIn w (.slice none 0 0) [] := ⟨none, 0, rfl, Nat.zero_le _, fun h => by simp at h⟩
theorem SpIn.owned {T : TypeId} {w : World} {v : Value} {l : List Sp} (h : w.ownsRow 0 T 3 v l.length (flatS l)) (hl : l.length ≤ 950000) : SpIn w v l := by
  rcases h.2 with ⟨rfl, h0⟩ | ⟨g, cap, cur, rfl, _⟩
  · obtain rfl := List.eq_nil_of_length_eq_zero h0
    exact .nil w
  · refine ⟨_, cap, rfl, hl, fun _ => ⟨g, rfl, (h.lt g rfl).2, fun j hj => ?_⟩⟩
    obtain ⟨f1, f2, f3⟩ := flatS_at l j hj
    exact ⟨by rw [h.cellAt _ (by omega), f1], by rw [h.cellAt _ (by omega), f2], by rw [h.cellAt _ (by omega), f3]⟩
def OfPost (ops : List Int) (w : World) (e : Ending) (w' : World) : Prop :=
  ∃ v, e = .returned (.tuple #[v, .int .i64 (matchP ops).2]) ∧ SpIn w' v (matchP ops).1 ∧ Below w.heap.size w w'
theorem of_bad {ops : List Int} {n : Int} {w w' : World} (h : matchP ops = ([], n)) (hb : Below w.heap.size w w') : OfPost ops w (.returned (.tuple #[.slice none 0 0, .int .i64 n])) w' :=
  ⟨_, by rw [h], by rw [h]; exact .nil _, hb⟩
set_option maxRecDepth 100000 in
set_option maxHeartbeats 1000000 in
theorem of_any (w : World) (A : Option Addr) (n c : Nat) (ops : List Int) (hc : CodeAt w A n ops) (hn : ops.length = n) (hm : n ≤ 950000) (hcn : n ≤ c) :
    Calls Tryd.prog 38 #[.slice A n c] w (OfPost ops w) := by
  rcases Nat.eq_zero_or_pos n with h0 | h0
  · subst h0
    have hp : matchP ops = ([], 12) := by unfold matchP; rw [if_pos (.inl hn)]
    clear hc hn
    have HP := Lib.hid hp
    clear hp
    go_enter Tryd.func38, Tryd.ntmps38
    go_wp2
    go_ret2
    exact of_bad HP.out (.refl _ _)
  · obtain ⟨l, rfl⟩ : ∃ l, n = l + 1 := ⟨n - 1, by omega⟩
    have hcl := hc.less (Nat.le_succ l)
    obtain ⟨g, o, rfl, hg, hcell⟩ := hc h0
    obtain ⟨_, _, _, _, _, _, k0, _⟩ := hcell l (Nat.lt_succ_self l)
    have HN := Lib.hid hn
    have HCL := Lib.hid hcl
    clear hc hcell hcl hn
    obtain ⟨X, hX⟩ : ∃ X, ops.getD l 0 = X := ⟨_, rfl⟩
    rw [hX] at k0
    have HX := Lib.hid hX
    clear hX
    by_cases h11 : X = 11
    case' neg =>
      have hd : (X == 11) = false := by simpa using h11
      have hd2 : (X != 11) = true := by simpa using h11
      have HP : Hid (matchP ops = ([], 12)) := by
        unfold Hid matchP
        rw [if_pos (.inr (by rw [HN.out, Nat.add_sub_cancel, HX.out]; exact h11))]
      clear h11
      go_enter Tryd.func38, Tryd.ntmps38
      go_wp2
      go_ret2
      exact of_bad HP.out (.refl _ _)
    subst h11
    have HPA := Lib.hid (pair_any w (some ⟨g, o, none⟩) l c ops HCL.out (by omega))
    have HM : Hid (matchP ops = match mrun ops 0 l with | none => (([] : List Sp), (12 : Int)) | some s => if s.op ≠ [] then ([], 12) else if 64 < s.deep then ([], 26) else (s.out, 0)) := by
      unfold Hid matchP
      rw [if_neg (by rw [HN.out, Nat.add_sub_cancel, HX.out]; simp), HN.out, Nat.add_sub_cancel]
      cases mrun ops 0 l <;> rfl
    go_enter Tryd.func38, Tryd.ntmps38
    have hlc : l ≤ c := by omega
    go_wp2_with fail
    go_at_call 69
    refine HPA.out.mono ?_
    intro e w' hp
    unfold PairPost at hp
    cases hr : mrun ops 0 l with
    | none =>
      rw [hr] at hp
      have hm2 := HM.out
      rw [hr] at hm2
      have HM2 := Lib.hid hm2
      obtain ⟨rfl, hb⟩ := hp
      clear hr hm2 HM HPA
      go_wp2
      go_ret2
      exact of_bad HM2.out hb
    | some s =>
      rw [hr] at hp
      have hm2 := HM.out
      rw [hr] at hm2
      have hv := mrun_inv _ _ _ _ hr
      have hsl : s.out.length ≤ 950000 := by have := hv.outl; omega
      obtain ⟨v, rfl, ho, hnew, hb⟩ := hp
      obtain ⟨Av, cv, rfl⟩ := owns_slice ho
      have HO := Lib.hid (SpIn.owned ho hsl)
      clear hr HM HPA hnew ho hv
      simp only at hm2
      by_cases h1 : s.op.length = 0
      · have h2 : s.op = [] := List.eq_nil_of_length_eq_zero h1
        rw [if_neg (by simp [h2])] at hm2
        have hd1 : decide (s.op.length = 0) = true := by simp [h1]
        rw [hd1]
        clear h1 h2 hd1
        by_cases h3 : 64 < s.deep
        · rw [if_pos h3] at hm2
          have hd3 : decide ((64 : Int) < (s.deep : Int)) = true := by simp; omega
          have HM2 := Lib.hid hm2
          clear hm2 h3
          go_wp2
          go_ret2
          exact of_bad HM2.out hb
        · rw [if_neg h3] at hm2
          have hd3 : decide ((64 : Int) < (s.deep : Int)) = false := by simp; omega
          have HM2 := Lib.hid hm2
          clear hm2 h3
          go_wp2
          go_ret2
          exact ⟨.slice Av s.out.length cv, by rw [HM2.out]; rfl, by rw [HM2.out]; exact HO.out, hb⟩
      · have h2 : s.op ≠ [] := fun e => h1 (by rw [e]; rfl)
        rw [if_pos h2] at hm2
        have hd1 : decide (s.op.length = 0) = false := decide_eq_false h1
        rw [hd1]
        have HM2 := Lib.hid hm2
        clear h1 h2 hd1 hm2
        go_wp2
        go_ret2
        exact of_bad HM2.out hb
end
section
open Go.RowKit
set_option maxRecDepth 100000 in
set_option maxHeartbeats 4000000 in
theorem matched_any (w : World) (v : Value) (l : List Fnc) (h : FunsK (fun k => k < w.heap.size) w v l) (hl : ∀ f ∈ l, f.code.length ≤ 950000) : Calls Tryd.prog 15 #[v] w (fun e w' => e = .returned (.int .i64 (firstC matC l)) ∧ Below w.heap.size w w') := by
  obtain ⟨A, c, hv, hnc, hcm⟩ := CellsK.form h
  have H := Lib.hid h
  have HL := Lib.hid hl
  rw [hv] at H ⊢
  clear h hv hl
  unfold maxLen at hcm
  obtain ⟨n, hn⟩ : ∃ n, l.length = n := ⟨_, rfl⟩
  have HN := Lib.hid hn
  rw [hn] at H hnc ⊢
  clear hn
  go_enter Tryd.func15, Tryd.ntmps15
  go_wp2_with fail
  go_loopw [9] (fun i wr => ∃ k : Nat, k ≤ n ∧ i = .int .i64 (k : Int) ∧ Hid (Below w.heap.size w wr) ∧ Hid (∀ j, j < k → matC (l.getD j fnc0) = 0)) (fun i _ => n - (intOf i).toNat)
  case atStart => exact ⟨0, Nat.zero_le _, rfl, Lib.hid (Below.refl _ _), Lib.hid fun j hj => absurd hj (Nat.not_lt_zero _)⟩
  case round =>
    obtain ⟨w0, rfl⟩ : ∃ w0, w0 = wr := ⟨_, rfl⟩
    obtain ⟨k, hk, rfl, HB, HA⟩ := hrel
    by_cases hlt : k < n
    · have hd : decide ((k : Int) < (n : Int)) = true := by simp; omega
      have hd2 : decide (k < n) = true := by simp; omega
      obtain ⟨g, o, c', he, _, _⟩ := CellsK.some_ H.out (by rw [HN.out]; omega)
      simp only [Value.slice.injEq] at he
      obtain ⟨rfl, -, rfl⟩ := he
      have hAT := FunsK.keep (K' := fun k => k < w0.heap.size) H.out (Keeps.below HB.out fun _ hk => hk) fun _ hk => Nat.lt_of_lt_of_le hk HB.out.size
      obtain ⟨u0, k0, h0⟩ := CellsK.at_ hAT k 0 (by rw [HN.out]; exact hlt) (by decide)
      obtain ⟨u1, k1, h1⟩ := CellsK.at_ hAT k 1 (by rw [HN.out]; exact hlt) (by decide)
      obtain ⟨u2, k2, h2⟩ := CellsK.at_ hAT k 2 (by rw [HN.out]; exact hlt) (by decide)
      have hlen := HL.out _ (getD_mem' l k fnc0 (by rw [HN.out]; exact hlt))
      have HAT := Lib.hid (fun (hz : matC (l.getD k fnc0) ≠ 0) => firstC_at (d := fnc0) HA.out (by rw [HN.out]; exact hlt) hz)
      have HAN := Lib.hid (fun (hz : matC (l.getD k fnc0) = 0) j (hj : j < k + 1) => (by rcases Nat.lt_or_ge j k with h1 | h1; exact HA.out j h1; rw [show j = k by omega]; exact hz : matC (l.getD j fnc0) = 0))
      clear hAT
      generalize l.getD k fnc0 = x at h0 h1 h2 hlen HAT HAN
      obtain ⟨x1, x2, x3⟩ := x
      obtain rfl : u0 = .int .i64 x1 := h0
      have h1 : IntsK (fun g => g < w0.heap.size) w0 u1 x2 := h1
      have h2 : CodeK (fun g => g < w0.heap.size) w0 u2 x3 := h2
      obtain ⟨P1, p1, rfl, _, _⟩ := h1.form
      obtain ⟨P2, p2, rfl, hp2, hca⟩ := h2.code
      generalize x2.length = m1 at *
      rw [Nat.add_zero] at k0
      have hbx : ∀ wz, Below w0.heap.size w0 wz → Calls Tryd.prog 38 #[.slice P2 x3.length p2] wz (OfPost (x3.map Ins.op) wz) := fun wz hz => of_any wz P2 x3.length p2 (x3.map Ins.op) (hca.below hz) (by rw [List.length_map]) hlen hp2
      generalize x3.length = m2 at *
      obtain ⟨W6, hW6⟩ : ∃ W6, W6 = w0.alloc (.cells #[.int .i64 x1, .slice P1 m1 p1, .slice P2 m2 p2] 33) := ⟨_, rfl⟩
      have hb6 : Below w0.heap.size w0 W6 := hW6 ▸ below_new (Below.refl _ _) _
      have y2 : W6.cell? ⟨w0.heap.size, 2, none⟩ = some (.slice P2 m2 p2) := by rw [hW6, World.cell?_alloc_new]; rfl
      have HOF := Lib.hid (hbx W6 hb6)
      have HW6 := Lib.hid hW6
      have HB6 := Lib.hid (below_then HB.out hb6)
      obtain ⟨mc, hmc⟩ : ∃ z, matC ⟨x1, x2, x3⟩ = z := ⟨_, rfl⟩
      rw [hmc] at HAT HAN
      have hmc : (matchP (x3.map Ins.op)).2 = mc := hmc
      unfold OfPost at HOF
      rw [hmc] at HOF
      clear h1 h2 hca hbx hlen hW6 hmc hb6
      by_cases hz : mc = 0
      · subst hz
        have HAZ := Lib.hid (HAN.out rfl)
        clear HAT HAN
        go_upto_region 4 with (fail)
        rw [← HW6.out]
        go_wp2_with (go_at_call 38; refine (HOF.out).mono ?_; rintro e w1 ⟨sv, rfl, _, hb1⟩; have HB1 := Lib.hid (below_then HB6.out hb1); clear hb1)
        go_roundw
        case rel => exact ⟨k + 1, by omega, by go_num, HB1, HAZ⟩
        case measure => simp [intOf]; omega
      · have hzb : (mc != 0) = true := by simpa using hz
        have HAZ := Lib.hid (HAT.out hz)
        clear HAT HAN hz
        go_upto_region 4 with (fail)
        rw [← HW6.out]
        go_wp2_with (go_at_call 38; refine (HOF.out).mono ?_; rintro e w1 ⟨sv, rfl, _, hb1⟩; have HB1 := Lib.hid (below_then HB6.out hb1); clear hb1)
        go_ret
        exact ⟨ret_i64 (HAZ.out).symm, HB1.out⟩
    · have hd : decide ((k : Int) < (n : Int)) = false := by simp; omega
      have hd2 : decide (k < n) = false := by simp; omega
      obtain rfl : n = k := by omega
      have HF := Lib.hid (firstC_zero (d := fnc0) (by rw [HN.out]; exact HA.out))
      go_wp2
      go_ret
      exact ⟨ret_i64 (HF.out).symm, HB.out⟩
end
section
open Go.RowKit
theorem chkin_any (n : Int) (l : Nat) (w : World) : Calls Tryd.prog 39 #[.int .i64 n, .int .i64 (l : Int)] w fun e w' => e = .returned (.bool (withinB n l)) ∧ w = w' := by
  unfold withinB
  by_cases h1 : 0 ≤ n
  · have d1 : decide ((0 : Int) ≤ n) = true := decide_eq_true h1
    cases h2 : decide (n < (l : Int)) <;>
    · rw [d1]
      go_enter Tryd.func39, Tryd.ntmps39
      go_wp2
      go_ret
      exact ⟨rfl, rfl⟩
  · have d1 : decide ((0 : Int) ≤ n) = false := decide_eq_false h1
    rw [d1]
    go_enter Tryd.func39, Tryd.ntmps39
    go_wp2
    go_ret
    exact ⟨rfl, rfl⟩
set_option maxRecDepth 100000 in
set_option maxHeartbeats 4000000 in
theorem ccount_any (w : World) (v : Mv) (m : Mdl) (kind : Int) (h : ModAt (fun k => k < w.heap.size) w v m) (hs : Short m) : Calls Tryd.prog 40 #[.agg v.cells, .int .i64 kind] w (fun e w' => e = .returned (.int .i64 (countC m kind : Int)) ∧ Below w.heap.size w w') := by
  have q0 := h.types
  have q1 := h.imps
  have q2 := h.funs
  have q3 := h.mems
  have q4 := h.globs
  have q5 := h.exps
  have q6 := h.datas
  have q7 := h.cus
  obtain ⟨A0, c0, A1, c1, A2, c2, A3, c3, A4, c4, A5, c5, A6, c6, A7, c7, rfl⟩ := mod_slices h
  simp only [Mv.cells] at ⊢
  simp only at q0 q1 q2 q3 q4 q5 q6 q7
  clear h
  obtain ⟨n0, hn0⟩ : ∃ n, m.types.length = n := ⟨_, rfl⟩
  obtain ⟨n1, hn1⟩ : ∃ n, m.imps.length = n := ⟨_, rfl⟩
  obtain ⟨n2, hn2⟩ : ∃ n, m.funs.length = n := ⟨_, rfl⟩
  obtain ⟨n3, hn3⟩ : ∃ n, m.mems.length = n := ⟨_, rfl⟩
  obtain ⟨n4, hn4⟩ : ∃ n, m.globs.length = n := ⟨_, rfl⟩
  obtain ⟨n5, hn5⟩ : ∃ n, m.exps.length = n := ⟨_, rfl⟩
  obtain ⟨n6, hn6⟩ : ∃ n, m.datas.length = n := ⟨_, rfl⟩
  obtain ⟨n7, hn7⟩ : ∃ n, m.cus.length = n := ⟨_, rfl⟩
  have HN0 := Lib.hid hn0
  have HN1 := Lib.hid hn1
  have HN2 := Lib.hid hn2
  have HN3 := Lib.hid hn3
  have HN4 := Lib.hid hn4
  have HN5 := Lib.hid hn5
  have HN6 := Lib.hid hn6
  have HN7 := Lib.hid hn7
  have hs1 := hs.2.1
  have hs2 := hs.2.2.1
  clear hs
  rw [hn1] at hs1
  rw [hn2] at hs2
  rw [hn0] at q0 ⊢
  rw [hn1] at q1 ⊢
  rw [hn2] at q2 ⊢
  rw [hn3] at q3 ⊢
  rw [hn4] at q4 ⊢
  rw [hn5] at q5 ⊢
  rw [hn6] at q6 ⊢
  rw [hn7] at q7 ⊢
  obtain ⟨W, hW⟩ : ∃ W, W = w.alloc (.cells #[.slice A0 n0 c0, .slice A1 n1 c1, .slice A2 n2 c2, .slice A3 n3 c3, .slice A4 n4 c4, .slice A5 n5 c5, .slice A6 n6 c6, .slice A7 n7 c7] 42) := ⟨_, rfl⟩
  have hbw : Below w.heap.size w W := hW ▸ (Below.refl _ _).alloc (Nat.le_refl _) _
  have HBW := Lib.hid hbw
  have HB8 : Hid (∀ wz, Below W.heap.size W wz → Box8 wz w.heap.size (.slice A0 n0 c0) (.slice A1 n1 c1) (.slice A2 n2 c2) (.slice A3 n3 c3) (.slice A4 n4 c4) (.slice A5 n5 c5) (.slice A6 n6 c6) (.slice A7 n7 c7)) := Lib.hid fun wz hz => by rw [hW] at hz; exact box8_new w _ _ _ _ _ _ _ _ hz
  have HW := Lib.hid hW
  have HKC : Hid (countC m kind = if kind = 0 then n1 + n2 else if kind = 2 then n3 else n4) := Lib.hid (by unfold countC; rw [HN1.out, HN2.out, HN3.out, HN4.out])
  rw [HKC.out]
  clear HKC
  have e1 : IntKind.i64.wrap ((n1 : Int) + (n2 : Int)) = (n1 : Int) + (n2 : Int) := IntWalk.i64_in _ (by omega)
  by_cases k0 : kind = 0
  · subst k0
    rw [if_pos rfl]
    clear hs1 hs2
    clear hbw hW q0 q1 q2 q3 q4 q5 q6 q7 hn0 hn1 hn2 hn3 hn4 hn5 hn6 hn7
    go_enter Tryd.func40, Tryd.ntmps40
    go_upto_region 1 with (fail)
    rw [← HW.out]
    obtain ⟨b0, b1, b2, b3, b4, b5, b6, b7⟩ := HB8.out W (Below.refl _ _)
    go_wp2
    go_ret
    exact ⟨ret_i64 (by omega), HBW.out⟩
  by_cases k2 : kind = 2
  · subst k2
    rw [if_neg (by decide), if_pos rfl]
    clear hs1 hs2 e1
    clear hbw hW q0 q1 q2 q3 q4 q5 q6 q7 hn0 hn1 hn2 hn3 hn4 hn5 hn6 hn7
    go_enter Tryd.func40, Tryd.ntmps40
    go_upto_region 1 with (fail)
    rw [← HW.out]
    obtain ⟨b0, b1, b2, b3, b4, b5, b6, b7⟩ := HB8.out W (Below.refl _ _)
    go_wp2
    go_ret
    exact ⟨rfl, HBW.out⟩
  have d0 : (kind == 0) = false := by simpa using k0
  have d2 : (kind == 2) = false := by simpa using k2
  rw [if_neg k0, if_neg k2]
  clear hs1 hs2 e1 k0 k2
  clear hbw hW q0 q1 q2 q3 q4 q5 q6 q7 hn0 hn1 hn2 hn3 hn4 hn5 hn6 hn7
  go_enter Tryd.func40, Tryd.ntmps40
  go_upto_region 1 with (fail)
  rw [← HW.out]
  obtain ⟨b0, b1, b2, b3, b4, b5, b6, b7⟩ := HB8.out W (Below.refl _ _)
  go_wp2
  go_ret
  exact ⟨rfl, HBW.out⟩
end
end Go.Proofs.YteohmkceapblkaaDoor
