/- A part of the proof. -/
import Derived.Test.YteohmkceapblkaaDoorJ37
namespace Go.Proofs.YteohmkceapblkaaDoor
open Go.RowKit
theorem numsTo_ok {o : Int} (h : o ∈ numsTo 128) : (69 ≤ o ∧ o ≤ 196) ∧ deadOk o = true := by
  refine ⟨?_, List.all_eq_true.1 dead_all o h⟩
  unfold numsTo at h
  obtain ⟨j, hj, rfl⟩ := List.mem_map.1 (List.mem_filter.1 h).1
  have := List.mem_range.1 hj
  omega
theorem OwnI.later {W wr w' : World} {v : Value} {q : List Int} (h : OwnI W wr v q) (hb : Below wr.heap.size wr w') : OwnI W w' v q := ⟨h.1, owns_below h.2.1 hb, h.2.2.1, below_then h.2.2.2 hb⟩
set_option maxRecDepth 100000 in
set_option maxHeartbeats 8000000 in
theorem dead_any (w : World) (ht : Tab w) (op : Int) (rich : Bool) : Calls Tryd.prog 3 #[.int .i64 op, .bool rich] w (BoolPost true w) := by
  have HNU := Lib.hid (fun wz o => rnum_any o wz)
  have HT := Lib.hid ht
  clear ht
  go_enter Tryd.func3, Tryd.ntmps3
  go_wp2_with fail
  go_loopw [5, 6, 7, 8, 9] (fun v i _ _ _ wr => ∃ (k : Nat) (A : Option Addr) (c : Nat), k ≤ 128 ∧ i = .int .i64 (69 + (k : Int)) ∧ v = .slice A (numsTo k).length c ∧ Hid (OwnI w wr (.slice A (numsTo k).length c) (numsTo k))) (fun _ i _ _ _ _ => 197 - (intOf i).toNat)
  case atStart => exact ⟨0, none, 0, by omega, rfl, rfl, Lib.hid ⟨⟨_, _, rfl⟩, World.ownsRow_nil _ _ _ _, fun g hg => (by cases hg), .refl _ _⟩⟩
  case round =>
    obtain ⟨w0, rfl⟩ : ∃ w0, w0 = wr := ⟨_, rfl⟩
    obtain ⟨k, A, c, hk, rfl, rfl, HO⟩ := hrel
    have hnk := numsTo_len k
    have HS := Lib.hid (numsTo_succ k)
    by_cases hlt : k < 128
    · have hd : decide (69 + (k : Int) ≤ 196) = true := by simp; omega
      have HP := Lib.hid (rnum_any (69 + (k : Int)) w0)
      unfold RNumPost at HP
      generalize numB (69 + (k : Int)) = bb at HP HS
      obtain ⟨l, hl⟩ : ∃ l, numsTo k = l := ⟨_, rfl⟩
      rw [hl] at HS HO hnk ⊢
      clear hl
      go_wp2_with fail
      go_at_call 4
      refine HP.out.mono ?_
      rintro e w1 ⟨p, q, rfl, hp, hq, hb1⟩
      obtain ⟨ap, np, cp, rfl⟩ := hp.slice
      obtain ⟨aq, nq, cq, rfl⟩ := hq.slice
      have HO1 := Lib.hid (HO.out.later hb1)
      have HO2 := Lib.hid (HO1.out.later (below_new (Below.refl _ _) (.cells #[.int .i64 (69 + (k : Int))] 3)))
      clear hp hq hb1 HP HO
      cases bb
      case' true =>
        go_wp2_with (at_builtin; (refine wpList_append_row rfl (.tmp 27) (.tmp 29) 22 3 rfl _ 1 8 Tryd.underlying22 Tryd.infoInt rfl (by decide) (by decide) _ l.length (l.map (Value.int .i64)) (by rfl) HO2.out.2.1 _ 1 [.int .i64 (69 + (k : Int))] (by rfl) (by rfl) (news_new w1 _ _ 1 1) (ones_int [69 + (k : Int)]) (by omega) ?_; intro v3 w3 ho3 hg3 hat3))
        have hp := HO2.out.push (more := [69 + (k : Int)]) ho3 (by rw [List.length_append]; rfl) (by rw [List.map_append]; rfl) hg3 hat3
        obtain ⟨B3, b3, rfl⟩ := owns_slice ho3
        have HP3 := Lib.hid hp
        clear ho3 hg3 hat3 hp
        go_roundw
        case rel => exact ⟨k + 1, B3, b3, by omega, by simp; omega, by rw [HS.out]; simp, by rw [HS.out]; simp only [if_true]; rw [List.length_append]; exact HP3⟩
        case measure => simp [intOf]; omega
      case' false =>
        go_wp2
        go_roundw
        case rel => exact ⟨k + 1, A, c, by omega, by simp; omega, by rw [HS.out]; simp, by rw [HS.out]; simp only [Bool.false_eq_true, if_false, List.append_nil]; exact HO1⟩
        case measure => simp [intOf]; omega
    · obtain rfl : k = 128 := by omega
      obtain ⟨n, hn⟩ : ∃ n, (numsTo 128).length = n := ⟨_, rfl⟩
      rw [hn] at HO ⊢
      rw [nums_len] at hn
      subst hn
      clear HS HNU hlt hk hnk
      have t0 := Int.lt_tmod_of_pos op (show (0 : Int) < 96 by omega)
      have t1 := Int.tmod_lt_of_pos op (show (0 : Int) < 96 by omega)
      obtain ⟨r, hr⟩ : ∃ r, op.tmod 96 = r := ⟨_, rfl⟩
      rw [hr] at t0 t1
      obtain ⟨s, hs⟩ : ∃ s : Nat, (s : Int) = r + 96 := ⟨(r + 96).toNat, by omega⟩
      have e2 : IntKind.i64.wrap (r + 96) = (s : Int) := by rw [hs]; exact IntWalk.i64_in _ (by omega)
      have e3 : (s : Int).tmod 96 = ((s % 96 : Nat) : Int) := by rw [Int.tmod_eq_emod_of_nonneg (Int.natCast_nonneg s)]; omega
      obtain ⟨j, hj⟩ : ∃ j, s % 96 = j := ⟨_, rfl⟩
      have hj96 : j < 96 := by omega
      rw [hj] at e3
      have hown := HO.out.2.1
      have hbw := HO.out.2.2.2
      obtain ⟨g, cap, he, hcell⟩ : ∃ g cap : Nat, (Value.slice A 96 c) = .slice (some ⟨g, 0, none⟩) 96 cap ∧ w0.cell? ⟨g, j, none⟩ = some (.int .i64 ((numsTo 128).getD j 0)) := by
        have hx : ((numsTo 128).map (Value.int .i64))[j]? = some (.int .i64 ((numsTo 128).getD j 0)) := by
          rw [List.getElem?_map, List.getD_eq_getElem?_getD, List.getElem?_eq_getElem (by rw [nums_len]; exact hj96)]; rfl
        rcases hown.2 with ⟨_, h2⟩ | ⟨g, cap, cur, h1, _, _, h2, h3, _⟩
        · rw [nums_len] at h2; omega
        · rw [nums_len] at h1
          have ho2 := hown
          rw [h1] at ho2
          exact ⟨g, cap, h1, by rw [ho2.cellAt j (by omega)]; exact hx⟩
      simp only [Value.slice.injEq] at he
      obtain ⟨rfl, -, rfl⟩ := he
      have hmem := numsTo_ok (getD_mem' (numsTo 128) j 0 (by rw [nums_len]; exact hj96))
      obtain ⟨o, ho⟩ : ∃ o, (numsTo 128).getD j 0 = o := ⟨_, rfl⟩
      rw [ho] at hmem hcell
      have HB0 := Lib.hid hbw
      have hj0 : decide ((0 : Int) ≤ (j : Int)) = true := by simp
      have hj1 : decide ((j : Int) < (96 : Int)) = true := by simp; omega
      clear hown HO hbw hs hj ho
      go_upto_region 9 with (fail)
      clear t0 t1 e2 e3 hj96 hcell hj0 hj1
      obtain ⟨Wm3, hWm3⟩ : ∃ W3, W3 = ((w0.alloc (.cells #[.slice none 0 0, .slice none 0 0] 26)).alloc (.cells #[.int .i64 0, .int .i64 0, .int .i64 0, .int .u64 0, .slice none 0 0, .int .i64 o, .int .i64 0, .int .i64 0, .int .u64 0, .slice none 0 0, .int .i64 26, .int .i64 0, .int .i64 0, .int .u64 0, .slice none 0 0, .int .i64 11, .int .i64 0, .int .i64 0, .int .u64 0, .slice none 0 0] 30)).alloc (.cells #[.int .i64 0, .slice none 0 0, .slice (some ⟨w0.heap.size + 1, 0, none⟩) 4 4] 33) := ⟨_, rfl⟩
      have hdm : Dm Wm3 w0.heap.size (w0.heap.size + 1) (w0.heap.size + 2) 0 o := by rw [hWm3]; exact Dm.new w0 0 o
      have hzm : Wm3.heap.size = w0.heap.size + 3 := by rw [hWm3]; simp
      have hbm3 : Below w0.heap.size w0 Wm3 := by rw [hWm3]; exact below_new (below_new (below_new (Below.refl _ _) _) _) _
      obtain ⟨Wm, hWm⟩ : ∃ W4, W4 = Wm3.alloc (.cells #[.slice (some ⟨w0.heap.size, 0, none⟩) 1 1, .slice none 0 0, .slice (some ⟨w0.heap.size + 2, 0, none⟩) 1 1, .slice none 0 0, .slice none 0 0, .slice none 0 0, .slice none 0 0, .slice none 0 0] 42) := ⟨_, rfl⟩
      have HXm : Hid (Wm = ((((w0.alloc (.cells #[.slice none 0 0, .slice none 0 0] 26)).alloc (.cells #[.int .i64 0, .int .i64 0, .int .i64 0, .int .u64 0, .slice none 0 0, .int .i64 o, .int .i64 0, .int .i64 0, .int .u64 0, .slice none 0 0, .int .i64 26, .int .i64 0, .int .i64 0, .int .u64 0, .slice none 0 0, .int .i64 11, .int .i64 0, .int .i64 0, .int .u64 0, .slice none 0 0] 30)).alloc (.cells #[.int .i64 0, .slice none 0 0, .slice (some ⟨w0.heap.size + 1, 0, none⟩) 4 4] 33)).alloc (.cells #[.slice (some ⟨w0.heap.size, 0, none⟩) 1 1, .slice none 0 0, .slice (some ⟨w0.heap.size + 2, 0, none⟩) 1 1, .slice none 0 0, .slice none 0 0, .slice none 0 0, .slice none 0 0, .slice none 0 0] 42))) := Lib.hid (by rw [hWm, hWm3])
      have HBm : Hid (Below w0.heap.size w0 Wm) := Lib.hid (by rw [hWm]; exact below_new hbm3 _)
      have HDm : Hid (∀ wz, Below Wm.heap.size Wm wz → Dm wz w0.heap.size (w0.heap.size + 1) (w0.heap.size + 2) 0 o) := Lib.hid fun wz hz => (hdm.below (by rw [hWm]; exact below_new (Below.refl _ _) _)).below hz
      have HQm : Hid (∀ wz, Below Wm.heap.size Wm wz → Box8 wz (w0.heap.size + 3) (.slice (some ⟨w0.heap.size, 0, none⟩) 1 1) (.slice none 0 0) (.slice (some ⟨w0.heap.size + 2, 0, none⟩) 1 1) (.slice none 0 0) (.slice none 0 0) (.slice none 0 0) (.slice none 0 0) (.slice none 0 0)) := Lib.hid fun wz hz => by rw [← hzm]; rw [hWm] at hz; exact box8_new Wm3 _ _ _ _ _ _ _ _ hz
      clear hWm hdm hbm3 hzm hWm3
      obtain ⟨Wn3, hWn3⟩ : ∃ W3, W3 = ((Wm.alloc (.cells #[.slice none 0 0, .slice none 0 0] 26)).alloc (.cells #[.int .i64 1, .int .i64 0, .int .i64 0, .int .u64 0, .slice none 0 0, .int .i64 o, .int .i64 0, .int .i64 0, .int .u64 0, .slice none 0 0, .int .i64 26, .int .i64 0, .int .i64 0, .int .u64 0, .slice none 0 0, .int .i64 11, .int .i64 0, .int .i64 0, .int .u64 0, .slice none 0 0] 30)).alloc (.cells #[.int .i64 0, .slice none 0 0, .slice (some ⟨Wm.heap.size + 1, 0, none⟩) 4 4] 33) := ⟨_, rfl⟩
      have hdn : Dm Wn3 Wm.heap.size (Wm.heap.size + 1) (Wm.heap.size + 2) 1 o := by rw [hWn3]; exact Dm.new Wm 1 o
      have hzn : Wn3.heap.size = Wm.heap.size + 3 := by rw [hWn3]; simp
      have hbn3 : Below Wm.heap.size Wm Wn3 := by rw [hWn3]; exact below_new (below_new (below_new (Below.refl _ _) _) _) _
      obtain ⟨Wn, hWn⟩ : ∃ W4, W4 = Wn3.alloc (.cells #[.slice (some ⟨Wm.heap.size, 0, none⟩) 1 1, .slice none 0 0, .slice (some ⟨Wm.heap.size + 2, 0, none⟩) 1 1, .slice none 0 0, .slice none 0 0, .slice none 0 0, .slice none 0 0, .slice none 0 0] 42) := ⟨_, rfl⟩
      have HXn : Hid (Wn = ((((Wm.alloc (.cells #[.slice none 0 0, .slice none 0 0] 26)).alloc (.cells #[.int .i64 1, .int .i64 0, .int .i64 0, .int .u64 0, .slice none 0 0, .int .i64 o, .int .i64 0, .int .i64 0, .int .u64 0, .slice none 0 0, .int .i64 26, .int .i64 0, .int .i64 0, .int .u64 0, .slice none 0 0, .int .i64 11, .int .i64 0, .int .i64 0, .int .u64 0, .slice none 0 0] 30)).alloc (.cells #[.int .i64 0, .slice none 0 0, .slice (some ⟨Wm.heap.size + 1, 0, none⟩) 4 4] 33)).alloc (.cells #[.slice (some ⟨Wm.heap.size, 0, none⟩) 1 1, .slice none 0 0, .slice (some ⟨Wm.heap.size + 2, 0, none⟩) 1 1, .slice none 0 0, .slice none 0 0, .slice none 0 0, .slice none 0 0, .slice none 0 0] 42))) := Lib.hid (by rw [hWn, hWn3])
      have HBn : Hid (Below Wm.heap.size Wm Wn) := Lib.hid (by rw [hWn]; exact below_new hbn3 _)
      have HDn : Hid (∀ wz, Below Wn.heap.size Wn wz → Dm wz Wm.heap.size (Wm.heap.size + 1) (Wm.heap.size + 2) 1 o) := Lib.hid fun wz hz => (hdn.below (by rw [hWn]; exact below_new (Below.refl _ _) _)).below hz
      have HQn : Hid (∀ wz, Below Wn.heap.size Wn wz → Box8 wz (Wm.heap.size + 3) (.slice (some ⟨Wm.heap.size, 0, none⟩) 1 1) (.slice none 0 0) (.slice (some ⟨Wm.heap.size + 2, 0, none⟩) 1 1) (.slice none 0 0) (.slice none 0 0) (.slice none 0 0) (.slice none 0 0) (.slice none 0 0)) := Lib.hid fun wz hz => by rw [← hzn]; rw [hWn] at hz; exact box8_new Wn3 _ _ _ _ _ _ _ _ hz
      clear hWn hdn hbn3 hzn hWn3
      have HBN : Hid (Below w.heap.size w Wn) := Lib.hid (below_then HB0.out (below_then HBm.out HBn.out))
      have HQ : Hid (∀ wz, Below Wn.heap.size Wn wz → (Box8 wz (w0.heap.size + 3) (.slice (some ⟨w0.heap.size, 0, none⟩) 1 1) (.slice none 0 0) (.slice (some ⟨w0.heap.size + 2, 0, none⟩) 1 1) (.slice none 0 0) (.slice none 0 0) (.slice none 0 0) (.slice none 0 0) (.slice none 0 0)) ∧ Box8 wz (Wm.heap.size + 3) (.slice (some ⟨Wm.heap.size, 0, none⟩) 1 1) (.slice none 0 0) (.slice (some ⟨Wm.heap.size + 2, 0, none⟩) 1 1) (.slice none 0 0) (.slice none 0 0) (.slice none 0 0) (.slice none 0 0) (.slice none 0 0)) := Lib.hid fun wz hz => ⟨HQm.out wz (below_then HBn.out hz), HQn.out wz hz⟩
      have HDM := Lib.hid (fun wz (hz : Below Wn.heap.size Wn wz) => HDm.out wz (below_then HBn.out hz))
      obtain ⟨hor, hok⟩ := hmem
      unfold deadOk at hok
      simp only [Bool.and_eq_true, Bool.or_eq_true, beq_iff_eq] at hok
      obtain ⟨⟨⟨⟨d1, d2⟩, d3⟩, d4⟩, d5⟩ := hok
      have HTW := Lib.hid (fun wz (hz : Below Wn.heap.size Wn wz) => HT.out.below (below_then HBN.out hz))
      have HKN := Lib.hid (fun wz (hz : Below Wn.heap.size Wn wz) => known10_any wz (HTW.out wz hz))
      have HRI := Lib.hid (fun wz => rrich_any o wz)
      have HF2 := Lib.hid (fun wz (hz : Below Wn.heap.size Wn wz) => func_dead (HDn.out wz hz) (.inr (.inl rfl)) hor 2 (1, 14) d1)
      have HM2 := Lib.hid (fun wz (hz : Below Wn.heap.size Wn wz) => module_dead (HDM.out wz hz) (HTW.out wz hz) (.inl rfl) hor 2 0 d2)
      have HN2 := Lib.hid (fun wz (hz : Below Wn.heap.size Wn wz) => module_dead (HDn.out wz hz) (HTW.out wz hz) (.inr (.inl rfl)) hor 2 14 d3)
      have HM1 := Lib.hid (fun wz (hz : Below Wn.heap.size Wn wz) => module_dead (HDM.out wz hz) (HTW.out wz hz) (.inl rfl) hor 1 _ d4)
      have HF1 := Lib.hid (fun (hr : richB o = false) wz (hz : Below Wn.heap.size Wn wz) => func_dead (HDn.out wz hz) (.inr (.inl rfl)) hor 1 (1, 14) (by rcases d5 with h | h; (rw [hr] at h; cases h); exact h.1))
      have HN1 := Lib.hid (fun (hr : richB o = false) wz (hz : Below Wn.heap.size Wn wz) => module_dead (HDn.out wz hz) (HTW.out wz hz) (.inr (.inl rfl)) hor 1 14 (by rcases d5 with h | h; (rw [hr] at h; cases h); exact h.2))
      unfold vDead at HF2 HM2 HN2 HM1 HF1 HN1
      unfold FuncPost at HF2 HF1
      unfold ModlPost at HM2 HN2 HM1 HN1
      unfold BoolPost at HKN
      simp only [Mv.cells] at HF2 HM2 HN2 HM1 HF1 HN1
      clear hor d1 d2 d3 d4 d5 HTW HT HDm HDn HDM
      go_upto_region 10 with (fail)
      rw [← HXm.out]
      go_upto_region 11 with (fail)
      rw [← HXn.out]
      cases hrb : richB o with
      | true =>
        rw [hrb] at HRI HM1 HF1 HN1
        rw [if_pos rfl] at HM1
        clear hrb
        cases rich with
        | true =>
          clear HF1 HN1
          obtain ⟨⟨a0, a1, a2, a3, a4, a5, a6, a7⟩, ⟨b0, b1, b2, b3, b4, b5, b6, b7⟩⟩ := HQ.out Wn (Below.refl _ _)
          go_upto_region 14 with (go_at_call 5; refine (HRI.out _).mono ?_; rintro e w1 ⟨rfl, rfl⟩)
          go_upto_region 15 with (go_at_call 6; refine (HF2.out Wn (Below.refl _ _)).mono ?_; rintro e w1 ⟨rfl, hb1⟩; have HB1 := Lib.hid hb1; clear hb1)
          clear a0 a1 a2 a3 a4 a5 a6 a7 b0 b1 b2 b3 b4 b5 b6 b7
          obtain ⟨⟨a0, a1, a2, a3, a4, a5, a6, a7⟩, ⟨b0, b1, b2, b3, b4, b5, b6, b7⟩⟩ := HQ.out w1 HB1.out
          go_region_held3 (fun wz => (wz.cell? ⟨w0.heap.size + 3, 0, none⟩ = some (.slice (some ⟨w0.heap.size, 0, none⟩) 1 1) ∧ wz.cell? ⟨w0.heap.size + 3, 1, none⟩ = some (.slice none 0 0) ∧ wz.cell? ⟨w0.heap.size + 3, 2, none⟩ = some (.slice (some ⟨w0.heap.size + 2, 0, none⟩) 1 1) ∧ wz.cell? ⟨w0.heap.size + 3, 3, none⟩ = some (.slice none 0 0) ∧ wz.cell? ⟨w0.heap.size + 3, 4, none⟩ = some (.slice none 0 0) ∧ wz.cell? ⟨w0.heap.size + 3, 5, none⟩ = some (.slice none 0 0) ∧ wz.cell? ⟨w0.heap.size + 3, 6, none⟩ = some (.slice none 0 0) ∧ wz.cell? ⟨w0.heap.size + 3, 7, none⟩ = some (.slice none 0 0)) ∧ (wz.cell? ⟨Wm.heap.size + 3, 0, none⟩ = some (.slice (some ⟨Wm.heap.size, 0, none⟩) 1 1) ∧ wz.cell? ⟨Wm.heap.size + 3, 1, none⟩ = some (.slice none 0 0) ∧ wz.cell? ⟨Wm.heap.size + 3, 2, none⟩ = some (.slice (some ⟨Wm.heap.size + 2, 0, none⟩) 1 1) ∧ wz.cell? ⟨Wm.heap.size + 3, 3, none⟩ = some (.slice none 0 0) ∧ wz.cell? ⟨Wm.heap.size + 3, 4, none⟩ = some (.slice none 0 0) ∧ wz.cell? ⟨Wm.heap.size + 3, 5, none⟩ = some (.slice none 0 0) ∧ wz.cell? ⟨Wm.heap.size + 3, 6, none⟩ = some (.slice none 0 0) ∧ wz.cell? ⟨Wm.heap.size + 3, 7, none⟩ = some (.slice none 0 0)))
            (first | go_keep | exact ⟨⟨a0, a1, a2, a3, a4, a5, a6, a7⟩, ⟨b0, b1, b2, b3, b4, b5, b6, b7⟩⟩ | exact HS2.out | exact HS3.out | exact HS4.out | exact HS5.out)
            ((first | (go_at_call 7; (with_reducible refine (HM2.out _ (below_then HB1.out ((Below.refl _ _).drew))).mono ?_); rintro e w2 ⟨rfl, hb⟩; have HB2 := Lib.hid (below_then (below_then HB1.out ((Below.refl _ _).drew)) hb); have HS2 := Lib.hid (HQ.out w2 HB2.out); unfold Box8 at HS2; clear hb) | (go_at_call 7; (with_reducible refine (HN2.out _ HB2.out).mono ?_); rintro e w3 ⟨rfl, hb⟩; have HB3 := Lib.hid (below_then HB2.out hb); have HS3 := Lib.hid (HQ.out w3 HB3.out); unfold Box8 at HS3; clear hb) | (go_at_call 5; refine (HRI.out _).mono ?_; rintro e w9 ⟨rfl, rfl⟩) | (go_at_call 7; (with_reducible refine (HM1.out _ HB3.out).mono ?_); rintro e w4 ⟨rfl, hb⟩; have HB4 := Lib.hid (below_then HB3.out hb); have HS4 := Lib.hid (HQ.out w4 HB4.out); unfold Box8 at HS4; clear hb) | (go_at_call 8; refine (HKN.out _ HB4.out).mono ?_; rintro e w5 ⟨rfl, hb⟩; have HB5 := Lib.hid (below_then HB4.out hb); have HS5 := Lib.hid (HQ.out w5 HB5.out); unfold Box8 at HS5; clear hb)))
          go_wp2
          go_ret
          exact ⟨rfl, below_then HBN.out HB5.out⟩
        | false =>
          clear HF1 HN1
          obtain ⟨⟨a0, a1, a2, a3, a4, a5, a6, a7⟩, ⟨b0, b1, b2, b3, b4, b5, b6, b7⟩⟩ := HQ.out Wn (Below.refl _ _)
          go_upto_region 14 with (go_at_call 5; refine (HRI.out _).mono ?_; rintro e w1 ⟨rfl, rfl⟩)
          go_upto_region 15 with (go_at_call 6; refine (HF2.out Wn (Below.refl _ _)).mono ?_; rintro e w1 ⟨rfl, hb1⟩; have HB1 := Lib.hid hb1; clear hb1)
          clear a0 a1 a2 a3 a4 a5 a6 a7 b0 b1 b2 b3 b4 b5 b6 b7
          obtain ⟨⟨a0, a1, a2, a3, a4, a5, a6, a7⟩, ⟨b0, b1, b2, b3, b4, b5, b6, b7⟩⟩ := HQ.out w1 HB1.out
          go_region_held3 (fun wz => (wz.cell? ⟨w0.heap.size + 3, 0, none⟩ = some (.slice (some ⟨w0.heap.size, 0, none⟩) 1 1) ∧ wz.cell? ⟨w0.heap.size + 3, 1, none⟩ = some (.slice none 0 0) ∧ wz.cell? ⟨w0.heap.size + 3, 2, none⟩ = some (.slice (some ⟨w0.heap.size + 2, 0, none⟩) 1 1) ∧ wz.cell? ⟨w0.heap.size + 3, 3, none⟩ = some (.slice none 0 0) ∧ wz.cell? ⟨w0.heap.size + 3, 4, none⟩ = some (.slice none 0 0) ∧ wz.cell? ⟨w0.heap.size + 3, 5, none⟩ = some (.slice none 0 0) ∧ wz.cell? ⟨w0.heap.size + 3, 6, none⟩ = some (.slice none 0 0) ∧ wz.cell? ⟨w0.heap.size + 3, 7, none⟩ = some (.slice none 0 0)) ∧ (wz.cell? ⟨Wm.heap.size + 3, 0, none⟩ = some (.slice (some ⟨Wm.heap.size, 0, none⟩) 1 1) ∧ wz.cell? ⟨Wm.heap.size + 3, 1, none⟩ = some (.slice none 0 0) ∧ wz.cell? ⟨Wm.heap.size + 3, 2, none⟩ = some (.slice (some ⟨Wm.heap.size + 2, 0, none⟩) 1 1) ∧ wz.cell? ⟨Wm.heap.size + 3, 3, none⟩ = some (.slice none 0 0) ∧ wz.cell? ⟨Wm.heap.size + 3, 4, none⟩ = some (.slice none 0 0) ∧ wz.cell? ⟨Wm.heap.size + 3, 5, none⟩ = some (.slice none 0 0) ∧ wz.cell? ⟨Wm.heap.size + 3, 6, none⟩ = some (.slice none 0 0) ∧ wz.cell? ⟨Wm.heap.size + 3, 7, none⟩ = some (.slice none 0 0)))
            (first | go_keep | exact ⟨⟨a0, a1, a2, a3, a4, a5, a6, a7⟩, ⟨b0, b1, b2, b3, b4, b5, b6, b7⟩⟩ | exact HS2.out | exact HS3.out | exact HS4.out | exact HS5.out)
            ((first | (go_at_call 7; (with_reducible refine (HM2.out _ (below_then HB1.out ((Below.refl _ _).drew))).mono ?_); rintro e w2 ⟨rfl, hb⟩; have HB2 := Lib.hid (below_then (below_then HB1.out ((Below.refl _ _).drew)) hb); have HS2 := Lib.hid (HQ.out w2 HB2.out); unfold Box8 at HS2; clear hb) | (go_at_call 7; (with_reducible refine (HN2.out _ HB2.out).mono ?_); rintro e w3 ⟨rfl, hb⟩; have HB3 := Lib.hid (below_then HB2.out hb); have HS3 := Lib.hid (HQ.out w3 HB3.out); unfold Box8 at HS3; clear hb) | (go_at_call 5; refine (HRI.out _).mono ?_; rintro e w9 ⟨rfl, rfl⟩) | (go_at_call 7; (with_reducible refine (HM1.out _ HB3.out).mono ?_); rintro e w4 ⟨rfl, hb⟩; have HB4 := Lib.hid (below_then HB3.out hb); have HS4 := Lib.hid (HQ.out w4 HB4.out); unfold Box8 at HS4; clear hb) | (go_at_call 8; refine (HKN.out _ HB4.out).mono ?_; rintro e w5 ⟨rfl, hb⟩; have HB5 := Lib.hid (below_then HB4.out hb); have HS5 := Lib.hid (HQ.out w5 HB5.out); unfold Box8 at HS5; clear hb)))
          go_wp2
          go_ret
          exact ⟨rfl, below_then HBN.out HB5.out⟩
      | false =>
        rw [hrb] at HRI HM1 HF1 HN1
        rw [if_neg (by decide)] at HM1
        clear hrb
        cases rich with
        | true =>
          clear HF1 HN1
          obtain ⟨⟨a0, a1, a2, a3, a4, a5, a6, a7⟩, ⟨b0, b1, b2, b3, b4, b5, b6, b7⟩⟩ := HQ.out Wn (Below.refl _ _)
          go_upto_region 14 with (go_at_call 5; refine (HRI.out _).mono ?_; rintro e w1 ⟨rfl, rfl⟩)
          go_upto_region 15 with (go_at_call 6; refine (HF2.out Wn (Below.refl _ _)).mono ?_; rintro e w1 ⟨rfl, hb1⟩; have HB1 := Lib.hid hb1; clear hb1)
          clear a0 a1 a2 a3 a4 a5 a6 a7 b0 b1 b2 b3 b4 b5 b6 b7
          obtain ⟨⟨a0, a1, a2, a3, a4, a5, a6, a7⟩, ⟨b0, b1, b2, b3, b4, b5, b6, b7⟩⟩ := HQ.out w1 HB1.out
          go_region_held3 (fun wz => (wz.cell? ⟨w0.heap.size + 3, 0, none⟩ = some (.slice (some ⟨w0.heap.size, 0, none⟩) 1 1) ∧ wz.cell? ⟨w0.heap.size + 3, 1, none⟩ = some (.slice none 0 0) ∧ wz.cell? ⟨w0.heap.size + 3, 2, none⟩ = some (.slice (some ⟨w0.heap.size + 2, 0, none⟩) 1 1) ∧ wz.cell? ⟨w0.heap.size + 3, 3, none⟩ = some (.slice none 0 0) ∧ wz.cell? ⟨w0.heap.size + 3, 4, none⟩ = some (.slice none 0 0) ∧ wz.cell? ⟨w0.heap.size + 3, 5, none⟩ = some (.slice none 0 0) ∧ wz.cell? ⟨w0.heap.size + 3, 6, none⟩ = some (.slice none 0 0) ∧ wz.cell? ⟨w0.heap.size + 3, 7, none⟩ = some (.slice none 0 0)) ∧ (wz.cell? ⟨Wm.heap.size + 3, 0, none⟩ = some (.slice (some ⟨Wm.heap.size, 0, none⟩) 1 1) ∧ wz.cell? ⟨Wm.heap.size + 3, 1, none⟩ = some (.slice none 0 0) ∧ wz.cell? ⟨Wm.heap.size + 3, 2, none⟩ = some (.slice (some ⟨Wm.heap.size + 2, 0, none⟩) 1 1) ∧ wz.cell? ⟨Wm.heap.size + 3, 3, none⟩ = some (.slice none 0 0) ∧ wz.cell? ⟨Wm.heap.size + 3, 4, none⟩ = some (.slice none 0 0) ∧ wz.cell? ⟨Wm.heap.size + 3, 5, none⟩ = some (.slice none 0 0) ∧ wz.cell? ⟨Wm.heap.size + 3, 6, none⟩ = some (.slice none 0 0) ∧ wz.cell? ⟨Wm.heap.size + 3, 7, none⟩ = some (.slice none 0 0)))
            (first | go_keep | exact ⟨⟨a0, a1, a2, a3, a4, a5, a6, a7⟩, ⟨b0, b1, b2, b3, b4, b5, b6, b7⟩⟩ | exact HS2.out | exact HS3.out | exact HS4.out | exact HS5.out)
            ((first | (go_at_call 7; (with_reducible refine (HM2.out _ (below_then HB1.out ((Below.refl _ _).drew))).mono ?_); rintro e w2 ⟨rfl, hb⟩; have HB2 := Lib.hid (below_then (below_then HB1.out ((Below.refl _ _).drew)) hb); have HS2 := Lib.hid (HQ.out w2 HB2.out); unfold Box8 at HS2; clear hb) | (go_at_call 7; (with_reducible refine (HN2.out _ HB2.out).mono ?_); rintro e w3 ⟨rfl, hb⟩; have HB3 := Lib.hid (below_then HB2.out hb); have HS3 := Lib.hid (HQ.out w3 HB3.out); unfold Box8 at HS3; clear hb) | (go_at_call 5; refine (HRI.out _).mono ?_; rintro e w9 ⟨rfl, rfl⟩) | (go_at_call 7; (with_reducible refine (HM1.out _ HB3.out).mono ?_); rintro e w4 ⟨rfl, hb⟩; have HB4 := Lib.hid (below_then HB3.out hb); have HS4 := Lib.hid (HQ.out w4 HB4.out); unfold Box8 at HS4; clear hb) | (go_at_call 8; refine (HKN.out _ HB4.out).mono ?_; rintro e w5 ⟨rfl, hb⟩; have HB5 := Lib.hid (below_then HB4.out hb); have HS5 := Lib.hid (HQ.out w5 HB5.out); unfold Box8 at HS5; clear hb)))
          go_wp2
          go_ret
          exact ⟨rfl, below_then HBN.out HB5.out⟩
        | false =>
          replace HF1 := Lib.hid (HF1.out rfl)
          replace HN1 := Lib.hid (HN1.out rfl)
          clear HF2 HM2 HN2
          obtain ⟨⟨a0, a1, a2, a3, a4, a5, a6, a7⟩, ⟨b0, b1, b2, b3, b4, b5, b6, b7⟩⟩ := HQ.out Wn (Below.refl _ _)
          go_upto_region 14 with (go_at_call 5; refine (HRI.out _).mono ?_; rintro e w1 ⟨rfl, rfl⟩)
          go_upto_region 15 with (go_at_call 6; refine (HF1.out Wn (Below.refl _ _)).mono ?_; rintro e w1 ⟨rfl, hb1⟩; have HB1 := Lib.hid hb1; clear hb1)
          clear a0 a1 a2 a3 a4 a5 a6 a7 b0 b1 b2 b3 b4 b5 b6 b7
          obtain ⟨⟨a0, a1, a2, a3, a4, a5, a6, a7⟩, ⟨b0, b1, b2, b3, b4, b5, b6, b7⟩⟩ := HQ.out w1 HB1.out
          go_region_held3 (fun wz => (wz.cell? ⟨w0.heap.size + 3, 0, none⟩ = some (.slice (some ⟨w0.heap.size, 0, none⟩) 1 1) ∧ wz.cell? ⟨w0.heap.size + 3, 1, none⟩ = some (.slice none 0 0) ∧ wz.cell? ⟨w0.heap.size + 3, 2, none⟩ = some (.slice (some ⟨w0.heap.size + 2, 0, none⟩) 1 1) ∧ wz.cell? ⟨w0.heap.size + 3, 3, none⟩ = some (.slice none 0 0) ∧ wz.cell? ⟨w0.heap.size + 3, 4, none⟩ = some (.slice none 0 0) ∧ wz.cell? ⟨w0.heap.size + 3, 5, none⟩ = some (.slice none 0 0) ∧ wz.cell? ⟨w0.heap.size + 3, 6, none⟩ = some (.slice none 0 0) ∧ wz.cell? ⟨w0.heap.size + 3, 7, none⟩ = some (.slice none 0 0)) ∧ (wz.cell? ⟨Wm.heap.size + 3, 0, none⟩ = some (.slice (some ⟨Wm.heap.size, 0, none⟩) 1 1) ∧ wz.cell? ⟨Wm.heap.size + 3, 1, none⟩ = some (.slice none 0 0) ∧ wz.cell? ⟨Wm.heap.size + 3, 2, none⟩ = some (.slice (some ⟨Wm.heap.size + 2, 0, none⟩) 1 1) ∧ wz.cell? ⟨Wm.heap.size + 3, 3, none⟩ = some (.slice none 0 0) ∧ wz.cell? ⟨Wm.heap.size + 3, 4, none⟩ = some (.slice none 0 0) ∧ wz.cell? ⟨Wm.heap.size + 3, 5, none⟩ = some (.slice none 0 0) ∧ wz.cell? ⟨Wm.heap.size + 3, 6, none⟩ = some (.slice none 0 0) ∧ wz.cell? ⟨Wm.heap.size + 3, 7, none⟩ = some (.slice none 0 0)))
            (first | go_keep | exact ⟨⟨a0, a1, a2, a3, a4, a5, a6, a7⟩, ⟨b0, b1, b2, b3, b4, b5, b6, b7⟩⟩ | exact HS2.out | exact HS3.out | exact HS4.out | exact HS5.out)
            ((first | (go_at_call 7; (with_reducible refine (HM1.out _ (below_then HB1.out ((Below.refl _ _).drew))).mono ?_); rintro e w2 ⟨rfl, hb⟩; have HB2 := Lib.hid (below_then (below_then HB1.out ((Below.refl _ _).drew)) hb); have HS2 := Lib.hid (HQ.out w2 HB2.out); unfold Box8 at HS2; clear hb) | (go_at_call 7; (with_reducible refine (HN1.out _ HB2.out).mono ?_); rintro e w3 ⟨rfl, hb⟩; have HB3 := Lib.hid (below_then HB2.out hb); have HS3 := Lib.hid (HQ.out w3 HB3.out); unfold Box8 at HS3; clear hb) | (go_at_call 5; refine (HRI.out _).mono ?_; rintro e w9 ⟨rfl, rfl⟩) | (go_at_call 7; (with_reducible refine (HM1.out _ HB3.out).mono ?_); rintro e w4 ⟨rfl, hb⟩; have HB4 := Lib.hid (below_then HB3.out hb); have HS4 := Lib.hid (HQ.out w4 HB4.out); unfold Box8 at HS4; clear hb) | (go_at_call 8; refine (HKN.out _ HB4.out).mono ?_; rintro e w5 ⟨rfl, hb⟩; have HB5 := Lib.hid (below_then HB4.out hb); have HS5 := Lib.hid (HQ.out w5 HB5.out); unfold Box8 at HS5; clear hb)))
          go_wp2
          go_ret
          exact ⟨rfl, below_then HBN.out HB5.out⟩
end Go.Proofs.YteohmkceapblkaaDoor
