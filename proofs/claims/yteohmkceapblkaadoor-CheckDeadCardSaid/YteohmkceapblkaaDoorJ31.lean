/- A part of the proof. -/
import Derived.Test.YteohmkceapblkaaDoorJ29
namespace Go.Proofs.YteohmkceapblkaaDoor
open Go.RowKit
set_option maxRecDepth 100000 in
set_option maxHeartbeats 4000000 in
theorem cmemsExist_any (w : World) (v : Mv) (m : Mdl) (h : ModAt (fun k => k < w.heap.size) w v m) : Calls Tryd.prog 18 #[.agg v.cells] w (BoolPost (m.datas.all (datIn m.mems.length)) w) := by
  have q0 := h.types
  have q1 := h.imps
  have q2 := h.funs
  have q3 := h.mems
  have q4 := h.globs
  have q5 := h.exps
  have q6 := h.datas
  have q7 := h.cus
  obtain ⟨A0, c0, A1, c1, A2, c2, A3, c3, A4, c4, A5, c5, A6, c6, A7, c7, rfl⟩ := mod_slices h
  simp only [Mv.cells] at ⊢
  simp only at q0 q1 q2 q3 q4 q5 q6 q7
  clear h
  obtain ⟨n0, hn0⟩ : ∃ n, m.types.length = n := ⟨_, rfl⟩
  obtain ⟨n1, hn1⟩ : ∃ n, m.imps.length = n := ⟨_, rfl⟩
  obtain ⟨n2, hn2⟩ : ∃ n, m.funs.length = n := ⟨_, rfl⟩
  obtain ⟨n3, hn3⟩ : ∃ n, m.mems.length = n := ⟨_, rfl⟩
  obtain ⟨n4, hn4⟩ : ∃ n, m.globs.length = n := ⟨_, rfl⟩
  obtain ⟨n5, hn5⟩ : ∃ n, m.exps.length = n := ⟨_, rfl⟩
  obtain ⟨n6, hn6⟩ : ∃ n, m.datas.length = n := ⟨_, rfl⟩
  obtain ⟨n7, hn7⟩ : ∃ n, m.cus.length = n := ⟨_, rfl⟩
  have HN0 := Lib.hid hn0
  have HN1 := Lib.hid hn1
  have HN2 := Lib.hid hn2
  have HN3 := Lib.hid hn3
  have HN4 := Lib.hid hn4
  have HN5 := Lib.hid hn5
  have HN6 := Lib.hid hn6
  have HN7 := Lib.hid hn7
  rw [hn0] at q0 ⊢
  rw [hn1] at q1 ⊢
  rw [hn2] at q2 ⊢
  rw [hn3] at q3 ⊢
  rw [hn4] at q4 ⊢
  rw [hn5] at q5 ⊢
  rw [hn6] at q6 ⊢
  rw [hn7] at q7 ⊢
  obtain ⟨W, hW⟩ : ∃ W, W = w.alloc (.cells #[.slice A0 n0 c0, .slice A1 n1 c1, .slice A2 n2 c2, .slice A3 n3 c3, .slice A4 n4 c4, .slice A5 n5 c5, .slice A6 n6 c6, .slice A7 n7 c7] 42) := ⟨_, rfl⟩
  have hbw : Below w.heap.size w W := hW ▸ (Below.refl _ _).alloc (Nat.le_refl _) _
  have HBW := Lib.hid hbw
  have HB8 : Hid (∀ wz, Below W.heap.size W wz → Box8 wz w.heap.size (.slice A0 n0 c0) (.slice A1 n1 c1) (.slice A2 n2 c2) (.slice A3 n3 c3) (.slice A4 n4 c4) (.slice A5 n5 c5) (.slice A6 n6 c6) (.slice A7 n7 c7)) := Lib.hid fun wz hz => by rw [hW] at hz; exact box8_new w _ _ _ _ _ _ _ _ hz
  have HW := Lib.hid hW
  have Q6 := Lib.hid (DatasK.keep (K' := fun k => k < W.heap.size) q6 (Keeps.below hbw fun _ hk => hk) (fun _ hk => Nat.lt_of_lt_of_le hk hbw.size))
  clear hbw hW q0 q1 q2 q3 q4 q5 q6 q7 hn0 hn1 hn2 hn3 hn4 hn5 hn6 hn7
  go_enter Tryd.func18, Tryd.ntmps18
  go_upto_region 1 with (fail)
  rw [← HW.out]
  obtain ⟨b0, b1, b2, b3, b4, b5, b6, b7⟩ := HB8.out W (Below.refl _ _)
  go_wp2_with fail
  clear b0 b1 b2 b3 b4 b5 b6 b7
  go_loopw [8] (fun i wr => ∃ k : Nat, k ≤ n6 ∧ i = .int .i64 (k : Int) ∧ Hid (Below W.heap.size W wr) ∧ Hid (AllTo (datIn n3) m.datas dat0 k)) (fun i _ => n6 - (intOf i).toNat)
  case atStart => exact ⟨0, Nat.zero_le _, rfl, Lib.hid (Below.refl _ _), Lib.hid (AllTo.zero _ _ _)⟩
  case round =>
    obtain ⟨w0, rfl⟩ : ∃ w0, w0 = wr := ⟨_, rfl⟩
    obtain ⟨k, hk, rfl, HB, HA⟩ := hrel
    by_cases hlt : k < n6
    · have hd : decide ((k : Int) < (n6 : Int)) = true := by simp; omega
      have hd2 : decide (k < n6) = true := by simp; omega
      obtain ⟨g, o, c', he, hq1, hq2⟩ := CellsK.some_ Q6.out (by rw [HN6.out]; omega)
      rw [HN6.out] at hq1
      unfold maxLen at hq2
      simp only [Value.slice.injEq] at he
      obtain ⟨rfl, -, rfl⟩ := he
      have hAT := DatasK.keep (K' := fun k => k < w0.heap.size) Q6.out (Keeps.below HB.out fun _ hk => hk) (fun _ hk => Nat.lt_of_lt_of_le hk HB.out.size)
      obtain ⟨u0, k0, h0⟩ := CellsK.at_ hAT k 0 (by rw [HN6.out]; exact hlt) (by decide)
      obtain ⟨u1, k1, h1⟩ := CellsK.at_ hAT k 1 (by rw [HN6.out]; exact hlt) (by decide)
      obtain ⟨u2, k2, h2⟩ := CellsK.at_ hAT k 2 (by rw [HN6.out]; exact hlt) (by decide)
      obtain ⟨u3, k3, h3⟩ := CellsK.at_ hAT k 3 (by rw [HN6.out]; exact hlt) (by decide)
      have HMEM := Lib.hid (getD_mem' m.datas k dat0 (by rw [HN6.out]; exact hlt))
      have HNO := Lib.hid (fun (h : (datIn n3) (m.datas.getD k dat0) = false) => all_no (p := datIn n3) (by rw [HN6.out]; exact hlt) h)
      have HYE := Lib.hid (fun (h : (datIn n3) (m.datas.getD k dat0) = true) => HA.out.succ h)
      clear hAT
      generalize m.datas.getD k dat0 = x at h0 h1 h2 h3 HNO HYE HMEM
      obtain ⟨x1, x2, x3, x4⟩ := x
      obtain rfl : u0 = .bool x1 := h0
      obtain rfl : u1 = .int .i64 x2 := h1
      obtain rfl : u2 = .int .i64 x3 := h2
      obtain ⟨P3, p3, rfl, _, _⟩ := h3
      generalize x4.length = m3 at k3
      rw [Nat.add_zero] at k0
      have hnx := below_new (Below.refl w0.heap.size w0) (.cells #[.bool x1, .int .i64 x2, .int .i64 x3, .slice P3 m3 p3] 86)
      have HC : Hid (∀ wz, Below (w0.alloc (.cells #[.bool x1, .int .i64 x2, .int .i64 x3, .slice P3 m3 p3] 86)).heap.size (w0.alloc (.cells #[.bool x1, .int .i64 x2, .int .i64 x3, .slice P3 m3 p3] 86)) wz → (wz.cell? ⟨w0.heap.size, 0, none⟩ = some (.bool x1) ∧ wz.cell? ⟨w0.heap.size, 1, none⟩ = some (.int .i64 x2) ∧ wz.cell? ⟨w0.heap.size, 2, none⟩ = some (.int .i64 x3) ∧ wz.cell? ⟨w0.heap.size, 3, none⟩ = some (.slice P3 m3 p3)) ∧ Box8 wz w.heap.size (.slice A0 n0 c0) (.slice A1 n1 c1) (.slice A2 n2 c2) (.slice A3 n3 c3) (.slice A4 n4 c4) (.slice A5 n5 c5) (.slice (some ⟨g, o, none⟩) n6 c6) (.slice A7 n7 c7)) := Lib.hid fun wz hb => by
        have h9 : ∀ i, wz.cell? ⟨w0.heap.size, i, none⟩ = (#[.bool x1, .int .i64 x2, .int .i64 x3, .slice P3 m3 p3] : Array Value)[i]? := fun i => (hb.cell (p := ⟨w0.heap.size, i, none⟩) (by simp)).trans (World.cell?_alloc_new w0 _ _ i)
        exact ⟨⟨h9 0, h9 1, h9 2, h9 3⟩, HB8.out wz (below_then HB.out (below_then hnx hb))⟩
      obtain ⟨-, b0, b1, b2, b3, b4, b5, b6, b7⟩ := HC.out _ (Below.refl _ _)
      cases x1 with
      | false =>
        have HY := Lib.hid (HYE.out rfl)
        clear HNO HYE
        go_wp2
        go_roundw
        case rel => exact ⟨k + 1, by omega, by go_num, Lib.hid (below_then HB.out hnx), HY⟩
        case measure => simp [intOf]; omega
      | true =>
        cases hb0 : (withinB x2 n3) with
        | false =>
          have HF := Lib.hid (HNO.out hb0)
          have HBZ := Lib.hid hb0
          clear HNO HYE
          go_wp2_with (go_at_call 39; refine (chkin_any _ _ _).mono ?_; rintro e w1 ⟨rfl, rfl⟩; try rw [HBZ.out])
          go_ret
          exact ⟨ret_bool (by rw [HF.out]), below_then HBW.out (below_then HB.out hnx)⟩
        | true =>
          have HY := Lib.hid (HYE.out hb0)
          have HBZ := Lib.hid hb0
          clear HNO HYE
          go_wp2_with (go_at_call 39; refine (chkin_any _ _ _).mono ?_; rintro e w1 ⟨rfl, rfl⟩; try rw [HBZ.out])
          go_roundw
          case rel => exact ⟨k + 1, by omega, by go_num, Lib.hid (below_then HB.out hnx), HY⟩
          case measure => simp [intOf]; omega
    · have hd : decide ((k : Int) < (n6 : Int)) = false := by simp; omega
      have hd2 : decide (k < n6) = false := by simp; omega
      obtain rfl : n6 = k := by omega
      have HF6 := Lib.hid (show m.datas.all (datIn n3) = true by have h := HA.out; rw [← HN6.out] at h; exact h.done)
      obtain ⟨b0, b1, b2, b3, b4, b5, b6, b7⟩ := HB8.out _ HB.out
      go_wp2
      go_ret
      exact ⟨ret_bool (by rw [HF6.out]), below_then HBW.out HB.out⟩
end Go.Proofs.YteohmkceapblkaaDoor
