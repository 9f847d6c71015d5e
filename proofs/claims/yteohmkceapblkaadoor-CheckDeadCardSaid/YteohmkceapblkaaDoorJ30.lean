/- A part of the proof. -/
import Derived.Test.YteohmkceapblkaaDoorJ29
namespace Go.Proofs.YteohmkceapblkaaDoor
section
open Go.RowKit
set_option maxRecDepth 100000 in
set_option maxHeartbeats 4000000 in
theorem ctypesExist_any (w : World) (v : Mv) (m : Mdl) (h : ModAt (fun k => k < w.heap.size) w v m) : Calls Tryd.prog 16 #[.agg v.cells] w (BoolPost (typesC m) w) := by
  have q0 := h.types
  have q1 := h.imps
  have q2 := h.funs
  have q3 := h.mems
  have q4 := h.globs
  have q5 := h.exps
  have q6 := h.datas
  have q7 := h.cus
  obtain ⟨A0, c0, A1, c1, A2, c2, A3, c3, A4, c4, A5, c5, A6, c6, A7, c7, rfl⟩ := mod_slices h
  simp only [Mv.cells] at ⊢
  simp only at q0 q1 q2 q3 q4 q5 q6 q7
  clear h
  obtain ⟨n0, hn0⟩ : ∃ n, m.types.length = n := ⟨_, rfl⟩
  obtain ⟨n1, hn1⟩ : ∃ n, m.imps.length = n := ⟨_, rfl⟩
  obtain ⟨n2, hn2⟩ : ∃ n, m.funs.length = n := ⟨_, rfl⟩
  obtain ⟨n3, hn3⟩ : ∃ n, m.mems.length = n := ⟨_, rfl⟩
  obtain ⟨n4, hn4⟩ : ∃ n, m.globs.length = n := ⟨_, rfl⟩
  obtain ⟨n5, hn5⟩ : ∃ n, m.exps.length = n := ⟨_, rfl⟩
  obtain ⟨n6, hn6⟩ : ∃ n, m.datas.length = n := ⟨_, rfl⟩
  obtain ⟨n7, hn7⟩ : ∃ n, m.cus.length = n := ⟨_, rfl⟩
  have HN0 := Lib.hid hn0
  have HN1 := Lib.hid hn1
  have HN2 := Lib.hid hn2
  have HN3 := Lib.hid hn3
  have HN4 := Lib.hid hn4
  have HN5 := Lib.hid hn5
  have HN6 := Lib.hid hn6
  have HN7 := Lib.hid hn7
  rw [hn0] at q0 ⊢
  rw [hn1] at q1 ⊢
  rw [hn2] at q2 ⊢
  rw [hn3] at q3 ⊢
  rw [hn4] at q4 ⊢
  rw [hn5] at q5 ⊢
  rw [hn6] at q6 ⊢
  rw [hn7] at q7 ⊢
  obtain ⟨W, hW⟩ : ∃ W, W = w.alloc (.cells #[.slice A0 n0 c0, .slice A1 n1 c1, .slice A2 n2 c2, .slice A3 n3 c3, .slice A4 n4 c4, .slice A5 n5 c5, .slice A6 n6 c6, .slice A7 n7 c7] 42) := ⟨_, rfl⟩
  have hbw : Below w.heap.size w W := hW ▸ (Below.refl _ _).alloc (Nat.le_refl _) _
  have HBW := Lib.hid hbw
  have HB8 : Hid (∀ wz, Below W.heap.size W wz → Box8 wz w.heap.size (.slice A0 n0 c0) (.slice A1 n1 c1) (.slice A2 n2 c2) (.slice A3 n3 c3) (.slice A4 n4 c4) (.slice A5 n5 c5) (.slice A6 n6 c6) (.slice A7 n7 c7)) := Lib.hid fun wz hz => by rw [hW] at hz; exact box8_new w _ _ _ _ _ _ _ _ hz
  have HW := Lib.hid hW
  have Q1 := Lib.hid (CellsK.keep (K' := fun k => k < W.heap.size) q1 (Keeps.below hbw fun _ hk => hk) (fun _ hk => Nat.lt_of_lt_of_le hk hbw.size) (fun _ _ _ h => h))
  have Q2 := Lib.hid (FunsK.keep (K' := fun k => k < W.heap.size) q2 (Keeps.below hbw fun _ hk => hk) (fun _ hk => Nat.lt_of_lt_of_le hk hbw.size))
  clear hbw hW q0 q1 q2 q3 q4 q5 q6 q7 hn0 hn1 hn2 hn3 hn4 hn5 hn6 hn7
  go_enter Tryd.func16, Tryd.ntmps16
  go_upto_region 1 with (fail)
  rw [← HW.out]
  obtain ⟨b0, b1, b2, b3, b4, b5, b6, b7⟩ := HB8.out W (Below.refl _ _)
  go_wp2_with fail
  clear b0 b1 b2 b3 b4 b5 b6 b7
  go_loopw [10] (fun i wr => ∃ k : Nat, k ≤ n1 ∧ i = .int .i64 (k : Int) ∧ Hid (Below W.heap.size W wr) ∧ Hid (AllTo (impIn n0) m.imps (ByteArray.empty, ByteArray.empty, 0) k)) (fun i _ => n1 - (intOf i).toNat)
  case atStart => exact ⟨0, Nat.zero_le _, rfl, Lib.hid (Below.refl _ _), Lib.hid (AllTo.zero _ _ _)⟩
  case round =>
    obtain ⟨w0, rfl⟩ : ∃ w0, w0 = wr := ⟨_, rfl⟩
    obtain ⟨k, hk, rfl, HB, HA⟩ := hrel
    by_cases hlt : k < n1
    · have hd : decide ((k : Int) < (n1 : Int)) = true := by simp; omega
      have hd2 : decide (k < n1) = true := by simp; omega
      obtain ⟨g, o, c', he, hq1, hq2⟩ := CellsK.some_ Q1.out (by rw [HN1.out]; omega)
      rw [HN1.out] at hq1
      unfold maxLen at hq2
      simp only [Value.slice.injEq] at he
      obtain ⟨rfl, -, rfl⟩ := he
      have hAT := CellsK.keep (K' := fun k => k < w0.heap.size) Q1.out (Keeps.below HB.out fun _ hk => hk) (fun _ hk => Nat.lt_of_lt_of_le hk HB.out.size) (fun _ _ _ h => h)
      obtain ⟨u0, k0, h0⟩ := CellsK.at_ hAT k 0 (by rw [HN1.out]; exact hlt) (by decide)
      obtain ⟨u1, k1, h1⟩ := CellsK.at_ hAT k 1 (by rw [HN1.out]; exact hlt) (by decide)
      obtain ⟨u2, k2, h2⟩ := CellsK.at_ hAT k 2 (by rw [HN1.out]; exact hlt) (by decide)
      have HMEM := Lib.hid (getD_mem' m.imps k (ByteArray.empty, ByteArray.empty, 0) (by rw [HN1.out]; exact hlt))
      have HNO := Lib.hid (fun (h : (impIn n0) (m.imps.getD k (ByteArray.empty, ByteArray.empty, 0)) = false) => all_no (p := impIn n0) (by rw [HN1.out]; exact hlt) h)
      have HYE := Lib.hid (fun (h : (impIn n0) (m.imps.getD k (ByteArray.empty, ByteArray.empty, 0)) = true) => HA.out.succ h)
      clear hAT
      generalize m.imps.getD k (ByteArray.empty, ByteArray.empty, 0) = x at h0 h1 h2 HNO HYE HMEM
      obtain ⟨x1, x2, x3⟩ := x
      obtain rfl : u0 = .string x1 := h0
      obtain rfl : u1 = .string x2 := h1
      obtain rfl : u2 = .int .i64 x3 := h2
      rw [Nat.add_zero] at k0
      have hnx := below_new (Below.refl w0.heap.size w0) (.cells #[.string x1, .string x2, .int .i64 x3] 80)
      have HC : Hid (∀ wz, Below (w0.alloc (.cells #[.string x1, .string x2, .int .i64 x3] 80)).heap.size (w0.alloc (.cells #[.string x1, .string x2, .int .i64 x3] 80)) wz → (wz.cell? ⟨w0.heap.size, 0, none⟩ = some (.string x1) ∧ wz.cell? ⟨w0.heap.size, 1, none⟩ = some (.string x2) ∧ wz.cell? ⟨w0.heap.size, 2, none⟩ = some (.int .i64 x3)) ∧ Box8 wz w.heap.size (.slice A0 n0 c0) (.slice (some ⟨g, o, none⟩) n1 c1) (.slice A2 n2 c2) (.slice A3 n3 c3) (.slice A4 n4 c4) (.slice A5 n5 c5) (.slice A6 n6 c6) (.slice A7 n7 c7)) := Lib.hid fun wz hb => by
        have h9 : ∀ i, wz.cell? ⟨w0.heap.size, i, none⟩ = (#[.string x1, .string x2, .int .i64 x3] : Array Value)[i]? := fun i => (hb.cell (p := ⟨w0.heap.size, i, none⟩) (by simp)).trans (World.cell?_alloc_new w0 _ _ i)
        exact ⟨⟨h9 0, h9 1, h9 2⟩, HB8.out wz (below_then HB.out (below_then hnx hb))⟩
      obtain ⟨-, b0, b1, b2, b3, b4, b5, b6, b7⟩ := HC.out _ (Below.refl _ _)
      cases hb0 : (withinB x3 n0) with
      | false =>
        have HF := Lib.hid (HNO.out hb0)
        have HBZ := Lib.hid hb0
        clear HNO HYE
        go_wp2_with (go_at_call 39; refine (chkin_any _ _ _).mono ?_; rintro e w1 ⟨rfl, rfl⟩; try rw [HBZ.out])
        go_ret
        exact ⟨ret_bool (by unfold typesC; rw [← HN0.out] at HF; rw [HF.out, Bool.false_and]), below_then HBW.out (below_then HB.out hnx)⟩
      | true =>
        have HY := Lib.hid (HYE.out hb0)
        have HBZ := Lib.hid hb0
        clear HNO HYE
        go_wp2_with (go_at_call 39; refine (chkin_any _ _ _).mono ?_; rintro e w1 ⟨rfl, rfl⟩; try rw [HBZ.out])
        go_roundw
        case rel => exact ⟨k + 1, by omega, by go_num, Lib.hid (below_then HB.out hnx), HY⟩
        case measure => simp [intOf]; omega
    · have hd : decide ((k : Int) < (n1 : Int)) = false := by simp; omega
      have hd2 : decide (k < n1) = false := by simp; omega
      obtain rfl : n1 = k := by omega
      have HF1 := Lib.hid (show m.imps.all (impIn n0) = true by have h := HA.out; rw [← HN1.out] at h; exact h.done)
      obtain ⟨b0, b1, b2, b3, b4, b5, b6, b7⟩ := HB8.out _ HB.out
      go_wp2_with fail
      clear b0 b1 b2 b3 b4 b5 b6 b7
      go_loopw [25] (fun i wr => ∃ k : Nat, k ≤ n2 ∧ i = .int .i64 (k : Int) ∧ Hid (Below W.heap.size W wr) ∧ Hid (AllTo (funIn n0) m.funs fnc0 k)) (fun i _ => n2 - (intOf i).toNat)
      case atStart => exact ⟨0, Nat.zero_le _, rfl, HB, Lib.hid (AllTo.zero _ _ _)⟩
      case round =>
        obtain ⟨w0, rfl⟩ : ∃ w0, w0 = wr := ⟨_, rfl⟩
        obtain ⟨k, hk, rfl, HB, HA⟩ := hrel
        by_cases hlt : k < n2
        · have hd : decide ((k : Int) < (n2 : Int)) = true := by simp; omega
          have hd2 : decide (k < n2) = true := by simp; omega
          obtain ⟨g, o, c', he, hq1, hq2⟩ := CellsK.some_ Q2.out (by rw [HN2.out]; omega)
          rw [HN2.out] at hq1
          unfold maxLen at hq2
          simp only [Value.slice.injEq] at he
          obtain ⟨rfl, -, rfl⟩ := he
          have hAT := FunsK.keep (K' := fun k => k < w0.heap.size) Q2.out (Keeps.below HB.out fun _ hk => hk) (fun _ hk => Nat.lt_of_lt_of_le hk HB.out.size)
          obtain ⟨u0, k0, h0⟩ := CellsK.at_ hAT k 0 (by rw [HN2.out]; exact hlt) (by decide)
          obtain ⟨u1, k1, h1⟩ := CellsK.at_ hAT k 1 (by rw [HN2.out]; exact hlt) (by decide)
          obtain ⟨u2, k2, h2⟩ := CellsK.at_ hAT k 2 (by rw [HN2.out]; exact hlt) (by decide)
          have HMEM := Lib.hid (getD_mem' m.funs k fnc0 (by rw [HN2.out]; exact hlt))
          have HNO := Lib.hid (fun (h : (funIn n0) (m.funs.getD k fnc0) = false) => all_no (p := funIn n0) (by rw [HN2.out]; exact hlt) h)
          have HYE := Lib.hid (fun (h : (funIn n0) (m.funs.getD k fnc0) = true) => HA.out.succ h)
          clear hAT
          generalize m.funs.getD k fnc0 = x at h0 h1 h2 HNO HYE HMEM
          obtain ⟨x1, x2, x3⟩ := x
          obtain rfl : u0 = .int .i64 x1 := h0
          have h1 : IntsK (fun g => g < w0.heap.size) w0 u1 x2 := h1
          have h2 : CodeK (fun g => g < w0.heap.size) w0 u2 x3 := h2
          obtain ⟨P1, p1, rfl, _, _⟩ := h1.form
          obtain ⟨P2, p2, rfl, _, _⟩ := CellsK.form h2
          generalize hm1 : x2.length = m1 at *
          generalize hm2 : x3.length = m2 at *
          clear hm1 hm2 h1 h2
          rw [Nat.add_zero] at k0
          have hnx := below_new (Below.refl w0.heap.size w0) (.cells #[.int .i64 x1, .slice P1 m1 p1, .slice P2 m2 p2] 33)
          have HC : Hid (∀ wz, Below (w0.alloc (.cells #[.int .i64 x1, .slice P1 m1 p1, .slice P2 m2 p2] 33)).heap.size (w0.alloc (.cells #[.int .i64 x1, .slice P1 m1 p1, .slice P2 m2 p2] 33)) wz → (wz.cell? ⟨w0.heap.size, 0, none⟩ = some (.int .i64 x1) ∧ wz.cell? ⟨w0.heap.size, 1, none⟩ = some (.slice P1 m1 p1) ∧ wz.cell? ⟨w0.heap.size, 2, none⟩ = some (.slice P2 m2 p2)) ∧ Box8 wz w.heap.size (.slice A0 n0 c0) (.slice A1 n1 c1) (.slice (some ⟨g, o, none⟩) n2 c2) (.slice A3 n3 c3) (.slice A4 n4 c4) (.slice A5 n5 c5) (.slice A6 n6 c6) (.slice A7 n7 c7)) := Lib.hid fun wz hb => by
            have h9 : ∀ i, wz.cell? ⟨w0.heap.size, i, none⟩ = (#[.int .i64 x1, .slice P1 m1 p1, .slice P2 m2 p2] : Array Value)[i]? := fun i => (hb.cell (p := ⟨w0.heap.size, i, none⟩) (by simp)).trans (World.cell?_alloc_new w0 _ _ i)
            exact ⟨⟨h9 0, h9 1, h9 2⟩, HB8.out wz (below_then HB.out (below_then hnx hb))⟩
          obtain ⟨-, b0, b1, b2, b3, b4, b5, b6, b7⟩ := HC.out _ (Below.refl _ _)
          cases hb0 : (withinB x1 n0) with
          | false =>
            have HF := Lib.hid (HNO.out hb0)
            have HBZ := Lib.hid hb0
            clear HNO HYE
            go_wp2_with (go_at_call 39; refine (chkin_any _ _ _).mono ?_; rintro e w1 ⟨rfl, rfl⟩; try rw [HBZ.out])
            go_ret
            exact ⟨ret_bool (by unfold typesC; rw [← HN0.out] at HF; rw [HF.out, Bool.and_false]), below_then HBW.out (below_then HB.out hnx)⟩
          | true =>
            have HY := Lib.hid (HYE.out hb0)
            have HBZ := Lib.hid hb0
            clear HNO HYE
            go_wp2_with (go_at_call 39; refine (chkin_any _ _ _).mono ?_; rintro e w1 ⟨rfl, rfl⟩; try rw [HBZ.out])
            go_roundw
            case rel => exact ⟨k + 1, by omega, by go_num, Lib.hid (below_then HB.out hnx), HY⟩
            case measure => simp [intOf]; omega
        · have hd : decide ((k : Int) < (n2 : Int)) = false := by simp; omega
          have hd2 : decide (k < n2) = false := by simp; omega
          obtain rfl : n2 = k := by omega
          have HF2 := Lib.hid (show m.funs.all (funIn n0) = true by have h := HA.out; rw [← HN2.out] at h; exact h.done)
          obtain ⟨b0, b1, b2, b3, b4, b5, b6, b7⟩ := HB8.out _ HB.out
          go_wp2
          go_ret
          exact ⟨ret_bool (by unfold typesC; rw [← HN0.out] at HF1 HF2; rw [HF1.out, HF2.out]; rfl), below_then HBW.out HB.out⟩
end
section
open Go.RowKit
set_option maxRecDepth 100000 in
set_option maxHeartbeats 4000000 in
theorem cexportsExist_any (w : World) (v : Mv) (m : Mdl) (h : ModAt (fun k => k < w.heap.size) w v m) (hs : Short m) : Calls Tryd.prog 17 #[.agg v.cells] w (BoolPost (m.exps.all (expIn m)) w) := by
  have q0 := h.types
  have q1 := h.imps
  have q2 := h.funs
  have q3 := h.mems
  have q4 := h.globs
  have q5 := h.exps
  have q6 := h.datas
  have q7 := h.cus
  obtain ⟨A0, c0, A1, c1, A2, c2, A3, c3, A4, c4, A5, c5, A6, c6, A7, c7, rfl⟩ := mod_slices h
  simp only [Mv.cells] at ⊢
  simp only at q0 q1 q2 q3 q4 q5 q6 q7
  obtain ⟨n0, hn0⟩ : ∃ n, m.types.length = n := ⟨_, rfl⟩
  obtain ⟨n1, hn1⟩ : ∃ n, m.imps.length = n := ⟨_, rfl⟩
  obtain ⟨n2, hn2⟩ : ∃ n, m.funs.length = n := ⟨_, rfl⟩
  obtain ⟨n3, hn3⟩ : ∃ n, m.mems.length = n := ⟨_, rfl⟩
  obtain ⟨n4, hn4⟩ : ∃ n, m.globs.length = n := ⟨_, rfl⟩
  obtain ⟨n5, hn5⟩ : ∃ n, m.exps.length = n := ⟨_, rfl⟩
  obtain ⟨n6, hn6⟩ : ∃ n, m.datas.length = n := ⟨_, rfl⟩
  obtain ⟨n7, hn7⟩ : ∃ n, m.cus.length = n := ⟨_, rfl⟩
  have HN0 := Lib.hid hn0
  have HN1 := Lib.hid hn1
  have HN2 := Lib.hid hn2
  have HN3 := Lib.hid hn3
  have HN4 := Lib.hid hn4
  have HN5 := Lib.hid hn5
  have HN6 := Lib.hid hn6
  have HN7 := Lib.hid hn7
  have HCT := Lib.hid (fun wz (hb : Below w.heap.size w wz) kind => ccount_any wz _ m kind (h.keep (Keeps.below hb fun _ hk => hk) fun _ hk => Nat.lt_of_lt_of_le hk hb.size) hs)
  simp only [Mv.cells] at HCT
  clear hs h
  rw [hn0] at q0 HCT ⊢
  rw [hn1] at q1 HCT ⊢
  rw [hn2] at q2 HCT ⊢
  rw [hn3] at q3 HCT ⊢
  rw [hn4] at q4 HCT ⊢
  rw [hn5] at q5 HCT ⊢
  rw [hn6] at q6 HCT ⊢
  rw [hn7] at q7 HCT ⊢
  obtain ⟨W, hW⟩ : ∃ W, W = w.alloc (.cells #[.slice A0 n0 c0, .slice A1 n1 c1, .slice A2 n2 c2, .slice A3 n3 c3, .slice A4 n4 c4, .slice A5 n5 c5, .slice A6 n6 c6, .slice A7 n7 c7] 42) := ⟨_, rfl⟩
  have hbw : Below w.heap.size w W := hW ▸ (Below.refl _ _).alloc (Nat.le_refl _) _
  have HBW := Lib.hid hbw
  have HB8 : Hid (∀ wz, Below W.heap.size W wz → Box8 wz w.heap.size (.slice A0 n0 c0) (.slice A1 n1 c1) (.slice A2 n2 c2) (.slice A3 n3 c3) (.slice A4 n4 c4) (.slice A5 n5 c5) (.slice A6 n6 c6) (.slice A7 n7 c7)) := Lib.hid fun wz hz => by rw [hW] at hz; exact box8_new w _ _ _ _ _ _ _ _ hz
  have HW := Lib.hid hW
  have Q5 := Lib.hid (CellsK.keep (K' := fun k => k < W.heap.size) q5 (Keeps.below hbw fun _ hk => hk) (fun _ hk => Nat.lt_of_lt_of_le hk hbw.size) (fun _ _ _ h => h))
  clear hbw hW q0 q1 q2 q3 q4 q5 q6 q7 hn0 hn1 hn2 hn3 hn4 hn5 hn6 hn7
  go_enter Tryd.func17, Tryd.ntmps17
  go_upto_region 1 with (fail)
  rw [← HW.out]
  obtain ⟨b0, b1, b2, b3, b4, b5, b6, b7⟩ := HB8.out W (Below.refl _ _)
  go_wp2_with fail
  clear b0 b1 b2 b3 b4 b5 b6 b7
  go_loopw [8] (fun i wr => ∃ k : Nat, k ≤ n5 ∧ i = .int .i64 (k : Int) ∧ Hid (Below W.heap.size W wr) ∧ Hid (AllTo (expIn m) m.exps (ByteArray.empty, 0, 0) k)) (fun i _ => n5 - (intOf i).toNat)
  case atStart => exact ⟨0, Nat.zero_le _, rfl, Lib.hid (Below.refl _ _), Lib.hid (AllTo.zero _ _ _)⟩
  case round =>
    obtain ⟨w0, rfl⟩ : ∃ w0, w0 = wr := ⟨_, rfl⟩
    obtain ⟨k, hk, rfl, HB, HA⟩ := hrel
    by_cases hlt : k < n5
    · have hd : decide ((k : Int) < (n5 : Int)) = true := by simp; omega
      have hd2 : decide (k < n5) = true := by simp; omega
      obtain ⟨g, o, c', he, hq1, hq2⟩ := CellsK.some_ Q5.out (by rw [HN5.out]; omega)
      rw [HN5.out] at hq1
      unfold maxLen at hq2
      simp only [Value.slice.injEq] at he
      obtain ⟨rfl, -, rfl⟩ := he
      have hAT := CellsK.keep (K' := fun k => k < w0.heap.size) Q5.out (Keeps.below HB.out fun _ hk => hk) (fun _ hk => Nat.lt_of_lt_of_le hk HB.out.size) (fun _ _ _ h => h)
      obtain ⟨u0, k0, h0⟩ := CellsK.at_ hAT k 0 (by rw [HN5.out]; exact hlt) (by decide)
      obtain ⟨u1, k1, h1⟩ := CellsK.at_ hAT k 1 (by rw [HN5.out]; exact hlt) (by decide)
      obtain ⟨u2, k2, h2⟩ := CellsK.at_ hAT k 2 (by rw [HN5.out]; exact hlt) (by decide)
      have HMEM := Lib.hid (getD_mem' m.exps k (ByteArray.empty, 0, 0) (by rw [HN5.out]; exact hlt))
      have HNO := Lib.hid (fun (h : (expIn m) (m.exps.getD k (ByteArray.empty, 0, 0)) = false) => all_no (p := expIn m) (by rw [HN5.out]; exact hlt) h)
      have HYE := Lib.hid (fun (h : (expIn m) (m.exps.getD k (ByteArray.empty, 0, 0)) = true) => HA.out.succ h)
      clear hAT
      generalize m.exps.getD k (ByteArray.empty, 0, 0) = x at h0 h1 h2 HNO HYE HMEM
      obtain ⟨x1, x2, x3⟩ := x
      obtain rfl : u0 = .string x1 := h0
      obtain rfl : u1 = .int .i64 x2 := h1
      obtain rfl : u2 = .int .i64 x3 := h2
      rw [Nat.add_zero] at k0
      have hnx := below_new (Below.refl w0.heap.size w0) (.cells #[.string x1, .int .i64 x2, .int .i64 x3] 82)
      have HC : Hid (∀ wz, Below (w0.alloc (.cells #[.string x1, .int .i64 x2, .int .i64 x3] 82)).heap.size (w0.alloc (.cells #[.string x1, .int .i64 x2, .int .i64 x3] 82)) wz → (wz.cell? ⟨w0.heap.size, 0, none⟩ = some (.string x1) ∧ wz.cell? ⟨w0.heap.size, 1, none⟩ = some (.int .i64 x2) ∧ wz.cell? ⟨w0.heap.size, 2, none⟩ = some (.int .i64 x3)) ∧ Box8 wz w.heap.size (.slice A0 n0 c0) (.slice A1 n1 c1) (.slice A2 n2 c2) (.slice A3 n3 c3) (.slice A4 n4 c4) (.slice (some ⟨g, o, none⟩) n5 c5) (.slice A6 n6 c6) (.slice A7 n7 c7)) := Lib.hid fun wz hb => by
        have h9 : ∀ i, wz.cell? ⟨w0.heap.size, i, none⟩ = (#[.string x1, .int .i64 x2, .int .i64 x3] : Array Value)[i]? := fun i => (hb.cell (p := ⟨w0.heap.size, i, none⟩) (by simp)).trans (World.cell?_alloc_new w0 _ _ i)
        exact ⟨⟨h9 0, h9 1, h9 2⟩, HB8.out wz (below_then HB.out (below_then hnx hb))⟩
      obtain ⟨-, b0, b1, b2, b3, b4, b5, b6, b7⟩ := HC.out _ (Below.refl _ _)
      cases hb0 : (withinB x3 (countC m x2)) with
      | false =>
        have HF := Lib.hid (HNO.out hb0)
        have HBZ := Lib.hid hb0
        clear HNO HYE
        go_upto_region 4 with (fail)
        obtain ⟨⟨-, z1, z2⟩, -⟩ := HC.out _ (Below.refl _ _)
        generalize hw1 : w0.alloc (.cells #[.string x1, .int .i64 x2, .int .i64 x3] 82) = w1 at *
        have HBX := Lib.hid (below_then HBW.out (below_then HB.out hnx))
        go_region_held3 (fun wz => wz.cell? ⟨w0.heap.size, 1, none⟩ = some (.int .i64 x2) ∧ wz.cell? ⟨w0.heap.size, 2, none⟩ = some (.int .i64 x3) ∧ wz.cell? ⟨w.heap.size, 0, none⟩ = some (.slice A0 n0 c0) ∧ wz.cell? ⟨w.heap.size, 1, none⟩ = some (.slice A1 n1 c1) ∧ wz.cell? ⟨w.heap.size, 2, none⟩ = some (.slice A2 n2 c2) ∧ wz.cell? ⟨w.heap.size, 3, none⟩ = some (.slice A3 n3 c3) ∧ wz.cell? ⟨w.heap.size, 4, none⟩ = some (.slice A4 n4 c4) ∧ wz.cell? ⟨w.heap.size, 5, none⟩ = some (.slice (some ⟨g, o, none⟩) n5 c5) ∧ wz.cell? ⟨w.heap.size, 6, none⟩ = some (.slice A6 n6 c6) ∧ wz.cell? ⟨w.heap.size, 7, none⟩ = some (.slice A7 n7 c7))
          (first | go_keep | exact ⟨z1, z2, b0, b1, b2, b3, b4, b5, b6, b7⟩ | exact HX2.out)
          ((first | (go_at_call 40; refine (HCT.out _ (below_then HBX.out ((Below.refl _ _).drew)) x2).mono ?_; rintro e w2 ⟨rfl, hb2⟩; have HB2 := Lib.hid (below_then ((Below.refl w1.heap.size w1).drew) hb2); have HX2 := Lib.hid (by obtain ⟨⟨-, y1, y2⟩, y⟩ := HC.out _ HB2.out; exact ⟨y1, y2, y⟩ : w2.cell? ⟨w0.heap.size, 1, none⟩ = some (.int .i64 x2) ∧ w2.cell? ⟨w0.heap.size, 2, none⟩ = some (.int .i64 x3) ∧ w2.cell? ⟨w.heap.size, 0, none⟩ = some (.slice A0 n0 c0) ∧ w2.cell? ⟨w.heap.size, 1, none⟩ = some (.slice A1 n1 c1) ∧ w2.cell? ⟨w.heap.size, 2, none⟩ = some (.slice A2 n2 c2) ∧ w2.cell? ⟨w.heap.size, 3, none⟩ = some (.slice A3 n3 c3) ∧ w2.cell? ⟨w.heap.size, 4, none⟩ = some (.slice A4 n4 c4) ∧ w2.cell? ⟨w.heap.size, 5, none⟩ = some (.slice (some ⟨g, o, none⟩) n5 c5) ∧ w2.cell? ⟨w.heap.size, 6, none⟩ = some (.slice A6 n6 c6) ∧ w2.cell? ⟨w.heap.size, 7, none⟩ = some (.slice A7 n7 c7)); clear hb2) | (go_at_call 39; refine (chkin_any _ _ _).mono ?_; rintro e w3 ⟨rfl, rfl⟩; try rw [HBZ.out])))
        go_wp2
        go_ret
        exact ⟨ret_bool (by rw [HF.out]), below_then HBW.out (below_then HB.out (below_then hnx HB2.out))⟩
      | true =>
        have HY := Lib.hid (HYE.out hb0)
        have HBZ := Lib.hid hb0
        clear HNO HYE
        go_upto_region 4 with (fail)
        obtain ⟨⟨-, z1, z2⟩, -⟩ := HC.out _ (Below.refl _ _)
        generalize hw1 : w0.alloc (.cells #[.string x1, .int .i64 x2, .int .i64 x3] 82) = w1 at *
        have HBX := Lib.hid (below_then HBW.out (below_then HB.out hnx))
        go_region_held3 (fun wz => wz.cell? ⟨w0.heap.size, 1, none⟩ = some (.int .i64 x2) ∧ wz.cell? ⟨w0.heap.size, 2, none⟩ = some (.int .i64 x3) ∧ wz.cell? ⟨w.heap.size, 0, none⟩ = some (.slice A0 n0 c0) ∧ wz.cell? ⟨w.heap.size, 1, none⟩ = some (.slice A1 n1 c1) ∧ wz.cell? ⟨w.heap.size, 2, none⟩ = some (.slice A2 n2 c2) ∧ wz.cell? ⟨w.heap.size, 3, none⟩ = some (.slice A3 n3 c3) ∧ wz.cell? ⟨w.heap.size, 4, none⟩ = some (.slice A4 n4 c4) ∧ wz.cell? ⟨w.heap.size, 5, none⟩ = some (.slice (some ⟨g, o, none⟩) n5 c5) ∧ wz.cell? ⟨w.heap.size, 6, none⟩ = some (.slice A6 n6 c6) ∧ wz.cell? ⟨w.heap.size, 7, none⟩ = some (.slice A7 n7 c7))
          (first | go_keep | exact ⟨z1, z2, b0, b1, b2, b3, b4, b5, b6, b7⟩ | exact HX2.out)
          ((first | (go_at_call 40; refine (HCT.out _ (below_then HBX.out ((Below.refl _ _).drew)) x2).mono ?_; rintro e w2 ⟨rfl, hb2⟩; have HB2 := Lib.hid (below_then ((Below.refl w1.heap.size w1).drew) hb2); have HX2 := Lib.hid (by obtain ⟨⟨-, y1, y2⟩, y⟩ := HC.out _ HB2.out; exact ⟨y1, y2, y⟩ : w2.cell? ⟨w0.heap.size, 1, none⟩ = some (.int .i64 x2) ∧ w2.cell? ⟨w0.heap.size, 2, none⟩ = some (.int .i64 x3) ∧ w2.cell? ⟨w.heap.size, 0, none⟩ = some (.slice A0 n0 c0) ∧ w2.cell? ⟨w.heap.size, 1, none⟩ = some (.slice A1 n1 c1) ∧ w2.cell? ⟨w.heap.size, 2, none⟩ = some (.slice A2 n2 c2) ∧ w2.cell? ⟨w.heap.size, 3, none⟩ = some (.slice A3 n3 c3) ∧ w2.cell? ⟨w.heap.size, 4, none⟩ = some (.slice A4 n4 c4) ∧ w2.cell? ⟨w.heap.size, 5, none⟩ = some (.slice (some ⟨g, o, none⟩) n5 c5) ∧ w2.cell? ⟨w.heap.size, 6, none⟩ = some (.slice A6 n6 c6) ∧ w2.cell? ⟨w.heap.size, 7, none⟩ = some (.slice A7 n7 c7)); clear hb2) | (go_at_call 39; refine (chkin_any _ _ _).mono ?_; rintro e w3 ⟨rfl, rfl⟩; try rw [HBZ.out])))
        go_wp2
        go_roundw
        case rel => exact ⟨k + 1, by omega, by go_num, Lib.hid (below_then HB.out (below_then hnx HB2.out)), HY⟩
        case measure => simp [intOf]; omega
    · have hd : decide ((k : Int) < (n5 : Int)) = false := by simp; omega
      have hd2 : decide (k < n5) = false := by simp; omega
      obtain rfl : n5 = k := by omega
      have HF5 := Lib.hid (show m.exps.all (expIn m) = true by have h := HA.out; rw [← HN5.out] at h; exact h.done)
      obtain ⟨b0, b1, b2, b3, b4, b5, b6, b7⟩ := HB8.out _ HB.out
      go_wp2
      go_ret
      exact ⟨ret_bool (by rw [HF5.out]), below_then HBW.out HB.out⟩
end
end Go.Proofs.YteohmkceapblkaaDoor
