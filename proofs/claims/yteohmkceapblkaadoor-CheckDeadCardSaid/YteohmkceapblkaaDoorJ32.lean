/- A part of the proof. -/
import Derived.Test.YteohmkceapblkaaDoorJ29
namespace Go.Proofs.YteohmkceapblkaaDoor
open Go.RowKit
set_option maxRecDepth 100000 in
set_option maxHeartbeats 4000000 in
theorem cplain_any (w : World) (v : Mv) (m : Mdl) (h : ModAt (fun k => k < w.heap.size) w v m) (he : m.exps.all (expIn m) = true) : Calls Tryd.prog 19 #[.agg v.cells] w (BoolPost (plainC m) w) := by
  have q0 := h.types
  have q1 := h.imps
  have q2 := h.funs
  have q3 := h.mems
  have q4 := h.globs
  have q5 := h.exps
  have q6 := h.datas
  have q7 := h.cus
  obtain ⟨A0, c0, A1, c1, A2, c2, A3, c3, A4, c4, A5, c5, A6, c6, A7, c7, rfl⟩ := mod_slices h
  simp only [Mv.cells] at ⊢
  simp only at q0 q1 q2 q3 q4 q5 q6 q7
  clear h
  obtain ⟨n0, hn0⟩ : ∃ n, m.types.length = n := ⟨_, rfl⟩
  obtain ⟨n1, hn1⟩ : ∃ n, m.imps.length = n := ⟨_, rfl⟩
  obtain ⟨n2, hn2⟩ : ∃ n, m.funs.length = n := ⟨_, rfl⟩
  obtain ⟨n3, hn3⟩ : ∃ n, m.mems.length = n := ⟨_, rfl⟩
  obtain ⟨n4, hn4⟩ : ∃ n, m.globs.length = n := ⟨_, rfl⟩
  obtain ⟨n5, hn5⟩ : ∃ n, m.exps.length = n := ⟨_, rfl⟩
  obtain ⟨n6, hn6⟩ : ∃ n, m.datas.length = n := ⟨_, rfl⟩
  obtain ⟨n7, hn7⟩ : ∃ n, m.cus.length = n := ⟨_, rfl⟩
  have HN0 := Lib.hid hn0
  have HN1 := Lib.hid hn1
  have HN2 := Lib.hid hn2
  have HN3 := Lib.hid hn3
  have HN4 := Lib.hid hn4
  have HN5 := Lib.hid hn5
  have HN6 := Lib.hid hn6
  have HN7 := Lib.hid hn7
  have HE := Lib.hid he
  clear he
  rw [hn0] at q0 ⊢
  rw [hn1] at q1 ⊢
  rw [hn2] at q2 ⊢
  rw [hn3] at q3 ⊢
  rw [hn4] at q4 ⊢
  rw [hn5] at q5 ⊢
  rw [hn6] at q6 ⊢
  rw [hn7] at q7 ⊢
  obtain ⟨W, hW⟩ : ∃ W, W = w.alloc (.cells #[.slice A0 n0 c0, .slice A1 n1 c1, .slice A2 n2 c2, .slice A3 n3 c3, .slice A4 n4 c4, .slice A5 n5 c5, .slice A6 n6 c6, .slice A7 n7 c7] 42) := ⟨_, rfl⟩
  have hbw : Below w.heap.size w W := hW ▸ (Below.refl _ _).alloc (Nat.le_refl _) _
  have HBW := Lib.hid hbw
  have HB8 : Hid (∀ wz, Below W.heap.size W wz → Box8 wz w.heap.size (.slice A0 n0 c0) (.slice A1 n1 c1) (.slice A2 n2 c2) (.slice A3 n3 c3) (.slice A4 n4 c4) (.slice A5 n5 c5) (.slice A6 n6 c6) (.slice A7 n7 c7)) := Lib.hid fun wz hz => by rw [hW] at hz; exact box8_new w _ _ _ _ _ _ _ _ hz
  have HW := Lib.hid hW
  have Q0 := Lib.hid (TypesK.keep (K' := fun k => k < W.heap.size) q0 (Keeps.below hbw fun _ hk => hk) (fun _ hk => Nat.lt_of_lt_of_le hk hbw.size))
  have Q6 := Lib.hid (DatasK.keep (K' := fun k => k < W.heap.size) q6 (Keeps.below hbw fun _ hk => hk) (fun _ hk => Nat.lt_of_lt_of_le hk hbw.size))
  have Q5 := Lib.hid (CellsK.keep (K' := fun k => k < W.heap.size) q5 (Keeps.below hbw fun _ hk => hk) (fun _ hk => Nat.lt_of_lt_of_le hk hbw.size) (fun _ _ _ h => h))
  have Q4 := Lib.hid (CellsK.keep (K' := fun k => k < W.heap.size) q4 (Keeps.below hbw fun _ hk => hk) (fun _ hk => Nat.lt_of_lt_of_le hk hbw.size) (fun _ _ _ h => h))
  clear hbw hW q0 q1 q2 q3 q4 q5 q6 q7 hn0 hn1 hn2 hn3 hn4 hn5 hn6 hn7
  go_enter Tryd.func19, Tryd.ntmps19
  go_upto_region 1 with (fail)
  rw [← HW.out]
  obtain ⟨b0, b1, b2, b3, b4, b5, b6, b7⟩ := HB8.out W (Below.refl _ _)
  go_wp2_with fail
  clear b0 b1 b2 b3 b4 b5 b6 b7
  go_loopw [12] (fun i wr => ∃ k : Nat, k ≤ n0 ∧ i = .int .i64 (k : Int) ∧ Hid (Below W.heap.size W wr) ∧ Hid (AllTo (typPl) m.types ([], []) k)) (fun i _ => n0 - (intOf i).toNat)
  case atStart => exact ⟨0, Nat.zero_le _, rfl, Lib.hid (Below.refl _ _), Lib.hid (AllTo.zero _ _ _)⟩
  case round =>
    obtain ⟨w0, rfl⟩ : ∃ w0, w0 = wr := ⟨_, rfl⟩
    obtain ⟨k, hk, rfl, HB, HA⟩ := hrel
    by_cases hlt : k < n0
    · have hd : decide ((k : Int) < (n0 : Int)) = true := by simp; omega
      have hd2 : decide (k < n0) = true := by simp; omega
      obtain ⟨g, o, c', he, hq1, hq2⟩ := CellsK.some_ Q0.out (by rw [HN0.out]; omega)
      rw [HN0.out] at hq1
      unfold maxLen at hq2
      simp only [Value.slice.injEq] at he
      obtain ⟨rfl, -, rfl⟩ := he
      have hAT := TypesK.keep (K' := fun k => k < w0.heap.size) Q0.out (Keeps.below HB.out fun _ hk => hk) (fun _ hk => Nat.lt_of_lt_of_le hk HB.out.size)
      obtain ⟨u0, k0, h0⟩ := CellsK.at_ hAT k 0 (by rw [HN0.out]; exact hlt) (by decide)
      obtain ⟨u1, k1, h1⟩ := CellsK.at_ hAT k 1 (by rw [HN0.out]; exact hlt) (by decide)
      have HMEM := Lib.hid (getD_mem' m.types k ([], []) (by rw [HN0.out]; exact hlt))
      have HNO := Lib.hid (fun (h : (typPl) (m.types.getD k ([], [])) = false) => all_no (p := typPl) (by rw [HN0.out]; exact hlt) h)
      have HYE := Lib.hid (fun (h : (typPl) (m.types.getD k ([], [])) = true) => HA.out.succ h)
      clear hAT
      generalize m.types.getD k ([], []) = x at h0 h1 HNO HYE HMEM
      obtain ⟨x1, x2⟩ := x
      have h0 : IntsK (fun g => g < w0.heap.size) w0 u0 x1 := h0
      have h1 : IntsK (fun g => g < w0.heap.size) w0 u1 x2 := h1
      obtain ⟨P0, p0, rfl, _, _⟩ := h0.form
      obtain ⟨P1, p1, rfl, _, _⟩ := h1.form
      generalize hm0 : x1.length = m0 at k0
      generalize hm1 : x2.length = m1 at k1
      clear h0 h1
      rw [Nat.add_zero] at k0
      have hnx := below_new (Below.refl w0.heap.size w0) (.cells #[.slice P0 m0 p0, .slice P1 m1 p1] 26)
      have HC : Hid (∀ wz, Below (w0.alloc (.cells #[.slice P0 m0 p0, .slice P1 m1 p1] 26)).heap.size (w0.alloc (.cells #[.slice P0 m0 p0, .slice P1 m1 p1] 26)) wz → (wz.cell? ⟨w0.heap.size, 0, none⟩ = some (.slice P0 m0 p0) ∧ wz.cell? ⟨w0.heap.size, 1, none⟩ = some (.slice P1 m1 p1)) ∧ Box8 wz w.heap.size (.slice (some ⟨g, o, none⟩) n0 c0) (.slice A1 n1 c1) (.slice A2 n2 c2) (.slice A3 n3 c3) (.slice A4 n4 c4) (.slice A5 n5 c5) (.slice A6 n6 c6) (.slice A7 n7 c7)) := Lib.hid fun wz hb => by
        have h9 : ∀ i, wz.cell? ⟨w0.heap.size, i, none⟩ = (#[.slice P0 m0 p0, .slice P1 m1 p1] : Array Value)[i]? := fun i => (hb.cell (p := ⟨w0.heap.size, i, none⟩) (by simp)).trans (World.cell?_alloc_new w0 _ _ i)
        exact ⟨⟨h9 0, h9 1⟩, HB8.out wz (below_then HB.out (below_then hnx hb))⟩
      obtain ⟨-, b0, b1, b2, b3, b4, b5, b6, b7⟩ := HC.out _ (Below.refl _ _)
      by_cases hz : m1 ≤ 1
      · have d1 : decide ((1 : Int) < (m1 : Int)) = false := by simp; omega
        have HY := Lib.hid (HYE.out (by show decide _ = true; rw [hm1]; exact decide_eq_true hz))
        clear HNO HYE hz hm0 hm1
        go_wp2
        go_roundw
        case rel => exact ⟨k + 1, by omega, by go_num, Lib.hid (below_then HB.out hnx), HY⟩
        case measure => simp [intOf]; omega
      · have d1 : decide ((1 : Int) < (m1 : Int)) = true := by simp; omega
        have HF := Lib.hid (HNO.out (by show decide _ = false; rw [hm1]; exact decide_eq_false hz))
        clear HNO HYE hz hm0 hm1
        go_wp2
        go_ret
        exact ⟨ret_bool (by unfold plainC; rw [HF.out]; rfl), below_then HBW.out (below_then HB.out hnx)⟩
    · have hd : decide ((k : Int) < (n0 : Int)) = false := by simp; omega
      have hd2 : decide (k < n0) = false := by simp; omega
      obtain rfl : n0 = k := by omega
      have HF0 := Lib.hid (show m.types.all (typPl) = true by have h := HA.out; rw [← HN0.out] at h; exact h.done)
      obtain ⟨b0, b1, b2, b3, b4, b5, b6, b7⟩ := HB8.out _ HB.out
      go_wp2_with fail
      clear b0 b1 b2 b3 b4 b5 b6 b7
      go_loopw [24] (fun i wr => ∃ k : Nat, k ≤ n6 ∧ i = .int .i64 (k : Int) ∧ Hid (Below W.heap.size W wr) ∧ Hid (AllTo (Dat.act) m.datas dat0 k)) (fun i _ => n6 - (intOf i).toNat)
      case atStart => exact ⟨0, Nat.zero_le _, rfl, HB, Lib.hid (AllTo.zero _ _ _)⟩
      case round =>
        obtain ⟨w0, rfl⟩ : ∃ w0, w0 = wr := ⟨_, rfl⟩
        obtain ⟨k, hk, rfl, HB, HA⟩ := hrel
        by_cases hlt : k < n6
        · have hd : decide ((k : Int) < (n6 : Int)) = true := by simp; omega
          have hd2 : decide (k < n6) = true := by simp; omega
          obtain ⟨g, o, c', he, hq1, hq2⟩ := CellsK.some_ Q6.out (by rw [HN6.out]; omega)
          rw [HN6.out] at hq1
          unfold maxLen at hq2
          simp only [Value.slice.injEq] at he
          obtain ⟨rfl, -, rfl⟩ := he
          have hAT := DatasK.keep (K' := fun k => k < w0.heap.size) Q6.out (Keeps.below HB.out fun _ hk => hk) (fun _ hk => Nat.lt_of_lt_of_le hk HB.out.size)
          obtain ⟨u0, k0, h0⟩ := CellsK.at_ hAT k 0 (by rw [HN6.out]; exact hlt) (by decide)
          obtain ⟨u1, k1, h1⟩ := CellsK.at_ hAT k 1 (by rw [HN6.out]; exact hlt) (by decide)
          obtain ⟨u2, k2, h2⟩ := CellsK.at_ hAT k 2 (by rw [HN6.out]; exact hlt) (by decide)
          obtain ⟨u3, k3, h3⟩ := CellsK.at_ hAT k 3 (by rw [HN6.out]; exact hlt) (by decide)
          have HMEM := Lib.hid (getD_mem' m.datas k dat0 (by rw [HN6.out]; exact hlt))
          have HNO := Lib.hid (fun (h : (Dat.act) (m.datas.getD k dat0) = false) => all_no (p := Dat.act) (by rw [HN6.out]; exact hlt) h)
          have HYE := Lib.hid (fun (h : (Dat.act) (m.datas.getD k dat0) = true) => HA.out.succ h)
          clear hAT
          generalize m.datas.getD k dat0 = x at h0 h1 h2 h3 HNO HYE HMEM
          obtain ⟨x1, x2, x3, x4⟩ := x
          obtain rfl : u0 = .bool x1 := h0
          obtain rfl : u1 = .int .i64 x2 := h1
          obtain rfl : u2 = .int .i64 x3 := h2
          obtain ⟨P3, p3, rfl, _, _⟩ := h3
          generalize x4.length = m3 at k3
          rw [Nat.add_zero] at k0
          have hnx := below_new (Below.refl w0.heap.size w0) (.cells #[.bool x1, .int .i64 x2, .int .i64 x3, .slice P3 m3 p3] 86)
          have HC : Hid (∀ wz, Below (w0.alloc (.cells #[.bool x1, .int .i64 x2, .int .i64 x3, .slice P3 m3 p3] 86)).heap.size (w0.alloc (.cells #[.bool x1, .int .i64 x2, .int .i64 x3, .slice P3 m3 p3] 86)) wz → (wz.cell? ⟨w0.heap.size, 0, none⟩ = some (.bool x1) ∧ wz.cell? ⟨w0.heap.size, 1, none⟩ = some (.int .i64 x2) ∧ wz.cell? ⟨w0.heap.size, 2, none⟩ = some (.int .i64 x3) ∧ wz.cell? ⟨w0.heap.size, 3, none⟩ = some (.slice P3 m3 p3)) ∧ Box8 wz w.heap.size (.slice A0 n0 c0) (.slice A1 n1 c1) (.slice A2 n2 c2) (.slice A3 n3 c3) (.slice A4 n4 c4) (.slice A5 n5 c5) (.slice (some ⟨g, o, none⟩) n6 c6) (.slice A7 n7 c7)) := Lib.hid fun wz hb => by
            have h9 : ∀ i, wz.cell? ⟨w0.heap.size, i, none⟩ = (#[.bool x1, .int .i64 x2, .int .i64 x3, .slice P3 m3 p3] : Array Value)[i]? := fun i => (hb.cell (p := ⟨w0.heap.size, i, none⟩) (by simp)).trans (World.cell?_alloc_new w0 _ _ i)
            exact ⟨⟨h9 0, h9 1, h9 2, h9 3⟩, HB8.out wz (below_then HB.out (below_then hnx hb))⟩
          obtain ⟨-, b0, b1, b2, b3, b4, b5, b6, b7⟩ := HC.out _ (Below.refl _ _)
          cases x1 with
          | true =>
            have HY := Lib.hid (HYE.out rfl)
            clear HNO HYE
            go_wp2
            go_roundw
            case rel => exact ⟨k + 1, by omega, by go_num, Lib.hid (below_then HB.out hnx), HY⟩
            case measure => simp [intOf]; omega
          | false =>
            have HF := Lib.hid (HNO.out rfl)
            clear HNO HYE
            go_wp2
            go_ret
            exact ⟨ret_bool (by unfold plainC; rw [HF0.out, HF.out]; rfl), below_then HBW.out (below_then HB.out hnx)⟩
        · have hd : decide ((k : Int) < (n6 : Int)) = false := by simp; omega
          have hd2 : decide (k < n6) = false := by simp; omega
          obtain rfl : n6 = k := by omega
          have HF6 := Lib.hid (show m.datas.all (Dat.act) = true by have h := HA.out; rw [← HN6.out] at h; exact h.done)
          obtain ⟨b0, b1, b2, b3, b4, b5, b6, b7⟩ := HB8.out _ HB.out
          go_wp2_with fail
          clear b0 b1 b2 b3 b4 b5 b6 b7
          go_loopw [35] (fun i wr => ∃ k : Nat, k ≤ n5 ∧ i = .int .i64 (k : Int) ∧ Hid (Below W.heap.size W wr) ∧ Hid (AllTo (expPl m) m.exps (ByteArray.empty, 0, 0) k)) (fun i _ => n5 - (intOf i).toNat)
          case atStart => exact ⟨0, Nat.zero_le _, rfl, HB, Lib.hid (AllTo.zero _ _ _)⟩
          case round =>
            obtain ⟨w0, rfl⟩ : ∃ w0, w0 = wr := ⟨_, rfl⟩
            obtain ⟨k, hk, rfl, HB, HA⟩ := hrel
            by_cases hlt : k < n5
            · have hd : decide ((k : Int) < (n5 : Int)) = true := by simp; omega
              have hd2 : decide (k < n5) = true := by simp; omega
              obtain ⟨g, o, c', he, hq1, hq2⟩ := CellsK.some_ Q5.out (by rw [HN5.out]; omega)
              rw [HN5.out] at hq1
              unfold maxLen at hq2
              simp only [Value.slice.injEq] at he
              obtain ⟨rfl, -, rfl⟩ := he
              have hAT := CellsK.keep (K' := fun k => k < w0.heap.size) Q5.out (Keeps.below HB.out fun _ hk => hk) (fun _ hk => Nat.lt_of_lt_of_le hk HB.out.size) (fun _ _ _ h => h)
              obtain ⟨u0, k0, h0⟩ := CellsK.at_ hAT k 0 (by rw [HN5.out]; exact hlt) (by decide)
              obtain ⟨u1, k1, h1⟩ := CellsK.at_ hAT k 1 (by rw [HN5.out]; exact hlt) (by decide)
              obtain ⟨u2, k2, h2⟩ := CellsK.at_ hAT k 2 (by rw [HN5.out]; exact hlt) (by decide)
              have HMEM := Lib.hid (getD_mem' m.exps k (ByteArray.empty, 0, 0) (by rw [HN5.out]; exact hlt))
              have HNO := Lib.hid (fun (h : (expPl m) (m.exps.getD k (ByteArray.empty, 0, 0)) = false) => all_no (p := expPl m) (by rw [HN5.out]; exact hlt) h)
              have HYE := Lib.hid (fun (h : (expPl m) (m.exps.getD k (ByteArray.empty, 0, 0)) = true) => HA.out.succ h)
              clear hAT
              generalize m.exps.getD k (ByteArray.empty, 0, 0) = x at h0 h1 h2 HNO HYE HMEM
              obtain ⟨x1, x2, x3⟩ := x
              obtain rfl : u0 = .string x1 := h0
              obtain rfl : u1 = .int .i64 x2 := h1
              obtain rfl : u2 = .int .i64 x3 := h2
              rw [Nat.add_zero] at k0
              have hnx := below_new (Below.refl w0.heap.size w0) (.cells #[.string x1, .int .i64 x2, .int .i64 x3] 82)
              have HC : Hid (∀ wz, Below (w0.alloc (.cells #[.string x1, .int .i64 x2, .int .i64 x3] 82)).heap.size (w0.alloc (.cells #[.string x1, .int .i64 x2, .int .i64 x3] 82)) wz → (wz.cell? ⟨w0.heap.size, 0, none⟩ = some (.string x1) ∧ wz.cell? ⟨w0.heap.size, 1, none⟩ = some (.int .i64 x2) ∧ wz.cell? ⟨w0.heap.size, 2, none⟩ = some (.int .i64 x3)) ∧ Box8 wz w.heap.size (.slice A0 n0 c0) (.slice A1 n1 c1) (.slice A2 n2 c2) (.slice A3 n3 c3) (.slice A4 n4 c4) (.slice (some ⟨g, o, none⟩) n5 c5) (.slice A6 n6 c6) (.slice A7 n7 c7)) := Lib.hid fun wz hb => by
                have h9 : ∀ i, wz.cell? ⟨w0.heap.size, i, none⟩ = (#[.string x1, .int .i64 x2, .int .i64 x3] : Array Value)[i]? := fun i => (hb.cell (p := ⟨w0.heap.size, i, none⟩) (by simp)).trans (World.cell?_alloc_new w0 _ _ i)
                exact ⟨⟨h9 0, h9 1, h9 2⟩, HB8.out wz (below_then HB.out (below_then hnx hb))⟩
              obtain ⟨-, b0, b1, b2, b3, b4, b5, b6, b7⟩ := HC.out _ (Below.refl _ _)
              by_cases hz : x2 = 3
              · subst hz
                have hin : withinB x3 (countC m 3) = true := List.all_eq_true.1 HE.out _ HMEM.out
                rw [show countC m 3 = n4 from HN4.out] at hin
                unfold withinB at hin
                rw [Bool.and_eq_true] at hin
                obtain ⟨j, rfl⟩ : ∃ j : Nat, x3 = (j : Int) := ⟨x3.toNat, by have := of_decide_eq_true hin.1; omega⟩
                have hj : j < n4 := by have := of_decide_eq_true hin.2; omega
                obtain ⟨g4, o4, c4', he4, _, _⟩ := CellsK.some_ Q4.out (by rw [HN4.out]; omega)
                simp only [Value.slice.injEq] at he4
                obtain ⟨rfl, -, rfl⟩ := he4
                have hAG := CellsK.keep (K' := fun k => k < w0.heap.size) Q4.out (Keeps.below HB.out fun _ hk => hk) (fun _ hk => Nat.lt_of_lt_of_le hk HB.out.size) (fun _ _ _ h => h)
                obtain ⟨v1, kg1, hg1⟩ := CellsK.at_ hAG j 1 (by rw [HN4.out]; exact hj) (by decide)
                have hg1 : v1 = .bool (m.globs.getD j glob0).2.1 := hg1
                have kg2 : (w0.alloc (.cells #[.string x1, .int .i64 3, .int .i64 (j : Int)] 82)).cell? ⟨g4, o4 + j * 3 + 1, none⟩ = some v1 := (hnx.cell (World.block_lt_of_cell? w0 _ kg1)).trans kg1
                have hj0 : decide ((0 : Int) ≤ (j : Int)) = true := by simp
                have hj1 : decide ((j : Int) < (n4 : Int)) = true := by simp; omega
                have hj2 : decide (j < n4) = true := by simp; omega
                have hep : expPl m (x1, 3, (j : Int)) = !(m.globs.getD j glob0).2.1 := by unfold expPl; simp
                rw [hep] at HNO HYE
                clear hep hin hAG HMEM
                cases hv : (m.globs.getD j glob0).2.1 with
                | false =>
                  rw [hv] at hg1 HYE HNO
                  subst hg1
                  have HY := Lib.hid (HYE.out rfl)
                  clear hv
                  clear HNO HYE
                  go_wp2
                  go_roundw
                  case rel => exact ⟨k + 1, by omega, by go_num, Lib.hid (below_then HB.out hnx), HY⟩
                  case measure => simp [intOf]; omega
                | true =>
                  rw [hv] at hg1 HYE HNO
                  subst hg1
                  have HF := Lib.hid (HNO.out rfl)
                  clear HNO HYE hv
                  go_wp2
                  go_ret
                  exact ⟨ret_bool (by unfold plainC; rw [HF0.out, HF6.out, HF.out]; rfl), below_then HBW.out (below_then HB.out hnx)⟩
              · have dz : (x2 == 3) = false := by simpa using hz
                have HY := Lib.hid (HYE.out (by unfold expPl; simp [hz]))
                clear hz
                clear HNO HYE
                go_wp2
                go_roundw
                case rel => exact ⟨k + 1, by omega, by go_num, Lib.hid (below_then HB.out hnx), HY⟩
                case measure => simp [intOf]; omega
            · have hd : decide ((k : Int) < (n5 : Int)) = false := by simp; omega
              have hd2 : decide (k < n5) = false := by simp; omega
              obtain rfl : n5 = k := by omega
              have HF5 := Lib.hid (show m.exps.all (expPl m) = true by have h := HA.out; rw [← HN5.out] at h; exact h.done)
              obtain ⟨b0, b1, b2, b3, b4, b5, b6, b7⟩ := HB8.out _ HB.out
              by_cases hz : n3 ≤ 1
              · have d1 : decide ((n3 : Int) ≤ (1 : Int)) = true := by simp; omega
                have d2 : decide (n3 ≤ 1) = true := by simp; omega
                have HZ := Lib.hid d2
                clear hz
                go_wp2
                go_ret
                exact ⟨ret_bool (by unfold plainC; rw [HF0.out, HF6.out, HF5.out, HN3.out, HZ.out]; rfl), below_then HBW.out HB.out⟩
              · have d1 : decide ((n3 : Int) ≤ (1 : Int)) = false := by simp; omega
                have d2 : decide (n3 ≤ 1) = false := by simp; omega
                have HZ := Lib.hid d2
                clear hz
                go_wp2
                go_ret
                exact ⟨ret_bool (by unfold plainC; rw [HF0.out, HF6.out, HF5.out, HN3.out, HZ.out]; rfl), below_then HBW.out HB.out⟩
end Go.Proofs.YteohmkceapblkaaDoor
