/-
  Contracts of near, value.
-/
import Derived.Test.YtinljaobdnkifaaDoorKval
import Derived.Deep.RegionHeld3
namespace Go.Proofs.YtinljaobdnkifaaDoor
open Go.RowKit

set_option maxRecDepth 100000 in
theorem near_any {F : Fx} {w : World} {x : St} (h : Gen F w x) (hm : Most x 890000) :
    Calls Tryd.prog 81 #[.pointer (some ⟨F.G, 0, none⟩)] w (GPost F w x (.tuple #[]) (fun x' => Num x x' 1 1)) := by
  have c0 := h.c0
  have H := Lib.hid h
  clear h
  go_enter Tryd.func81, Tryd.ntmps81
  go_wp2_with fail
  go_at_call 12
  refine (next_gen H.out 1100 (by omega) (by omega)).mono ?_
  rintro e w1 ⟨r1, hr1, rfl, x1, hg1, hs1, hn1⟩
  have hm1 := hm.num hn1
  go_wp2_with fail
  go_at_call 17
  refine (put_any hg1 _ _ _ _ _ ⟨[], IntsK.nil _ _⟩ (hm1.le (by omega))).mono ?_
  rintro e w4 ⟨rfl, x4, hg4, hs4, hn4⟩
  have hm4 := (hm1.num hn4).s
  have H4 := Lib.hid hg4
  have HS4 := Lib.hid (hs1.trans hs4)
  have HN4 := Lib.hid (hn1.trans hn4)
  clear hg4 hs4 hn4 hg1 hs1 hn1 c0 hm1
  have c12 := H4.out.c12
  have c12b := (H4.out.pushf (.cells #[.int .i64 127] 3)).1
  go_wp2_with (at_builtin; refine wpList_append_row rfl (.tmp 15) (.tmp 16) 22 3 rfl _ 1 8 Tryd.underlying22 Tryd.infoInt rfl (by decide) (by decide) x4.sv x4.s.length (x4.s.map (Value.int .i64)) (by rfl) (H4.out.so.alloc _) _ 1 [.int .i64 127] (by rfl) (by rfl) (news_new w4 _ _ 1 1) (ones_int [127]) (by omega) ?_; intro v' w' hown hgr hat; obtain ⟨e12, f12⟩ := (H4.out.pushf _).2 w' hgr; obtain ⟨A', c', rfl⟩ := owns_slice hown)
  have hgs := H4.out.pushS _ hgr 127 _ hown hat
  clear hgr hown hat e12 f12 c12 c12b
  have HGS := Lib.hid hgs
  clear hgs
  refine bodyPost_end (results_none rfl _ _ _) rfl ⟨rfl, _, HGS.out.1, HS4.out.trans HGS.out.2, ?_⟩
  obtain ⟨n1, n2, n3, n4⟩ := HN4.out
  exact ⟨by show (x4.s ++ [_]).length = _; rw [List.length_append, n1]; rfl, n2, n3, n4⟩

/-- What came out of the two loops and the push behind them. -/
theorem push_end {F : Fx} {w w1 w2 : World} {x x1 : St} {t : Int} {v : Value} {ds dc : Nat} (hs : Step F w x w1 x1) (hn : Num x x1 ds dc) (hgs : Gen F w2 { x1 with sv := v, s := x1.s ++ [t] } ∧ Step F w1 x1 w2 { x1 with sv := v, s := x1.s ++ [t] }) (R : St → Prop)
    (hR : ∀ y, Num x y (ds + 1) dc → R y) : GPost F w x (.tuple #[]) R (.returned (.tuple #[])) w2 := by
  obtain ⟨n1, n2, n3, n4⟩ := hn
  exact ⟨rfl, _, hgs.1, hs.trans hgs.2, hR _ ⟨by show (x1.s ++ [_]).length = _; rw [List.length_append, n1]; rfl, n2, n3, n4⟩⟩

set_option maxRecDepth 100000 in
set_option maxHeartbeats 1000000 in
theorem value_any {F : Fx} {w : World} {x : St} (h : Gen F w x) (t : Int) (hm : Most x 880000) :
    Calls Tryd.prog 27 #[.pointer (some ⟨F.G, 0, none⟩), .int .i64 t] w (GPost F w x (.tuple #[]) (fun x' => Num x x' 1 1)) := by
  have c0 := h.c0
  have H := Lib.hid h
  clear h
  go_enter Tryd.func27, Tryd.ntmps27
  go_wp2_with fail
  go_at_call 12
  refine (next_gen H.out 3 (by omega) (by omega)).mono ?_
  rintro e w1 ⟨r1, hr1, rfl, x1, hg1, hs1, hn1⟩
  have hm1 := hm.num hn1
  have H1 := Lib.hid hg1
  have HS1 := Lib.hid hs1
  have HN1 := Lib.hid hn1
  clear hg1 hs1 hn1 H
  by_cases h0 : r1 = 0
  · subst h0
    obtain ⟨A, c, hlov, _, _⟩ := H1.out.reads.loc.1.form
    have hl0 := H1.out.reads.loc.2
    have HLOC := fun (wy : World) (y : St) (hy : Gen F wy y) => hy.reads.loc.1
    rw [hlov] at HLOC
    have HLV := Lib.hid hlov
    have HL := Lib.hid HLOC
    clear HLOC hlov
    generalize hln : F.lo.length = n at *
    have HLN := Lib.hid hln
    clear hln
    replace c0 := H1.out.c0
    go_wp2_with fail
    go_loopw [4, 5] (fun i _ wr => ∃ (k : Nat) (y : St), k ≤ n ∧ i = .int .i64 (k : Int) ∧ Hid (Gen F wr y) ∧ Hid (Step F w x wr y) ∧ Hid (Num x y 0 0)) (fun i _ _ => n - (intOf i).toNat)
    case atStart => exact ⟨0, x1, Nat.zero_le _, rfl, H1, HS1, HN1⟩
    case round =>
      clear c0 hm1 H1 HS1 HN1
      obtain ⟨k, y, hk, rfl, HY, HSY, HNY⟩ := hrel
      have hmy := hm.num HNY.out
      have c0 := HY.out.c0
      have c9 := HY.out.c9
      rw [HLV.out] at c9
      by_cases hlt : k < n
      · have hkn : (0 : Int) ≤ k := Int.natCast_nonneg _
        have hn0 : ((n : Int) == 0) = false := by simp; omega
        have hn1 : ¬ (n : Int) = 0 := by omega
        have hn2 : ¬ n = 0 := by omega
        have hn3 : (0 : Int) ≤ (n : Int) := by omega
        have hd : decide ((k : Int) < (n : Int)) = true := by simp; omega
        obtain ⟨g, o, c2, he, _, _⟩ := (HL.out _ _ HY.out).some_ (by rw [HLN.out]; omega)
        simp only [Value.slice.injEq] at he
        obtain ⟨rfl, -, -⟩ := he
        have HAT : Hid (∀ (wy : World) (y : St), Gen F wy y → ∀ j, j < n → wy.cell? ⟨g, o + j, none⟩ = some (.int .i64 (F.lo.getD j 0))) := fun wy y hy j hj => (HL.out wy y hy).at_ j hj
        have HC9 : Hid (∀ (wy : World) (y : St), Gen F wy y → wy.cell? ⟨F.G, 9, none⟩ = some (.slice (some ⟨g, o, none⟩) n c)) := fun wy y hy => by rw [hy.c9, HLV.out]
        go_wp2_with fail
        go_region_held3 (fun w' => w'.cell? ⟨F.G, 0, none⟩ = some (.pointer (some ⟨F.T, 0, none⟩)) ∧ w'.cell? ⟨F.G, 9, none⟩ = some (.slice (some ⟨g, o, none⟩) n c))
          (first | go_keep | exact ⟨hg2.c0, HC9.out _ _ hg2⟩)
          ((go_at_call 12; refine (next_gen HY.out.drew.1 3 (by omega) (by omega)).mono ?_; rintro e w2 ⟨r2, hr2, rfl, y2, hg2, hs2, hn2⟩; have e2 : ((k : Int) + (r2 : Int)).tmod (n : Int) = ((k : Int) + (r2 : Int)) % (n : Int) := Int.tmod_eq_emod_of_nonneg (by omega); have e1 : IntKind.i64.wrap ((k : Int) + (r2 : Int)) = (k : Int) + (r2 : Int) := IntWalk.i64_in _ (by omega)))
        have hj : (k + r2) % n < n := Nat.mod_lt _ (by omega)
        have hcell := HAT.out _ _ hg2 ((k + r2) % n) hj
        generalize F.lo.getD ((k + r2) % n) 0 = z at hcell
        have b1 : (0 : Int) ≤ ((k : Int) + (r2 : Int)) % (n : Int) := Int.emod_nonneg _ (by omega)
        have b2 : ((k : Int) + (r2 : Int)) % (n : Int) < (n : Int) := Int.emod_lt_of_pos _ (by omega)
        have hm2 := hmy.num hn2
        have H2 := Lib.hid hg2
        have HS2 := Lib.hid (HSY.out.trans (HY.out.drew.2.trans hs2))
        have HN2 := Lib.hid (HNY.out.trans hn2)
        have c0' := hg2.c0
        have c9' := hg2.c9
        rw [HLV.out] at c9'
        clear hg2 hs2 hn2 HY HSY HNY c0 c9
        by_cases hz : z = t
        · have hd2 : (z == t) = true := by simpa using hz
          go_wp2_with fail
          go_at_call 17
          refine (put_any H2.out _ _ _ _ _ ⟨[], IntsK.nil _ _⟩ (hm2.le (by omega))).mono ?_
          rintro e w4 ⟨rfl, x4, hg4, hs4, hn4⟩
          have hm4 := (hm2.num hn4).s
          have H4 := Lib.hid hg4
          have HS4 := Lib.hid (HS2.out.trans hs4)
          have HN4 := Lib.hid (HN2.out.trans hn4)
          clear hg4 hs4 hn4 H2 HS2 HN2 c0' c9' hm2 hmy hcell
          have c12 := H4.out.c12
          have c12b := (H4.out.pushf (.cells #[.int .i64 t] 3)).1
          go_wp2_with (at_builtin; refine wpList_append_row rfl (.tmp 53) (.tmp 55) 22 3 rfl _ 1 8 Tryd.underlying22 Tryd.infoInt rfl (by decide) (by decide) x4.sv x4.s.length (x4.s.map (Value.int .i64)) (by rfl) (H4.out.so.alloc _) _ 1 [.int .i64 t] (by rfl) (by rfl) (news_new w4 _ _ 1 1) (ones_int [t]) (by omega) ?_; intro v' w' hown hgr hat; obtain ⟨e12, f12⟩ := (H4.out.pushf _).2 w' hgr; obtain ⟨A', c', rfl⟩ := owns_slice hown)
          have hgs := H4.out.pushS _ hgr t _ hown hat
          clear hgr hown hat e12 f12 c12 c12b
          have HGS := Lib.hid hgs
          clear hgs
          refine bodyPost_ret (results_none rfl _ _ _) rfl (push_end HS4.out HN4.out HGS.out _ fun _ h => h)
        · have hd2 : (z == t) = false := by simpa using hz
          go_wp2
          go_roundw
          case rel => exact ⟨k + 1, _, by omega, by go_num, H2, HS2, HN2⟩
          case measure => simp [intOf]; omega
      · go_wp2_with (go_at_call 61; refine (constant_any HY.out t (hmy.le (by omega))).mono ?_; rintro e w2 ⟨rfl, x2, hg2, hs2, hn2⟩)
        refine bodyPost_end (results_none rfl _ _ _) rfl ⟨rfl, _, hg2, HSY.out.trans hs2, HNY.out.trans hn2⟩
  · have hd0 : ((r1 : Int) == 0) = false := by simp; omega
    by_cases h1 : r1 = 1
    · subst h1
      obtain ⟨g, o, c, hm4, hlc, hcm⟩ := H1.out.reads.globs.1.some_ (by rw [H1.out.reads.globs.2]; omega)
      unfold maxLen at hcm
      have HAT : Hid (∀ (wy : World) (y : St), Gen F wy y → ∀ j, j < 4 → wy.cell? ⟨g, o + j * 3, none⟩ = some (.int .i64 (F.gs.getD j 0))) := fun wy y hy j hj => by
        have h2 := hy.reads.globs.1
        rw [hm4] at h2
        exact h2.at_ j (by rw [hy.reads.globs.2]; exact hj) (by omega)
      rw [H1.out.reads.globs.2] at hm4 hlc
      have HC5 : Hid (∀ (wy : World) (y : St), Gen F wy y → wy.cell? ⟨F.G, 5, none⟩ = some (.slice (some ⟨g, o, none⟩) 4 c)) := fun wy y hy => by rw [hy.c5, hm4]
      clear hm4
      go_wp2_with fail
      go_loopw [6] (fun i wr => ∃ (k : Nat), k ≤ 4 ∧ i = .int .i64 (k : Int) ∧ wr = w1) (fun i _ => 4 - (intOf i).toNat)
      case atStart => exact ⟨0, Nat.zero_le _, rfl, rfl⟩
      case round =>
        obtain ⟨k, hk, rfl, rfl⟩ := hrel
        have c0 := H1.out.c0
        have c5 := HC5.out _ _ H1.out
        by_cases hlt : k < 4
        · have hkn : (0 : Int) ≤ k := Int.natCast_nonneg _
          have hcell := HAT.out _ _ H1.out k hlt
          generalize F.gs.getD k 0 = z at hcell
          have hd : decide ((k : Int) < 4) = true := by simp; omega
          by_cases hz : z = t
          · have hd2 : (z == t) = true := by simpa using hz
            go_wp2_with fail
            go_at_call 17
            refine (put_any H1.out _ _ _ _ _ ⟨[], IntsK.nil _ _⟩ (hm1.le (by omega))).mono ?_
            rintro e w4 ⟨rfl, x4, hg4, hs4, hn4⟩
            have hm4 := (hm1.num hn4).s
            have H4 := Lib.hid hg4
            have HS4 := Lib.hid (HS1.out.trans hs4)
            have HN4 := Lib.hid (HN1.out.trans hn4)
            clear hg4 hs4 hn4 H1 HS1 HN1 c0 c5 hm1 hcell
            have c12 := H4.out.c12
            have c12b := (H4.out.pushf (.cells #[.int .i64 t] 3)).1
            go_wp2_with (at_builtin; refine wpList_append_row rfl (.tmp 90) (.tmp 92) 22 3 rfl _ 1 8 Tryd.underlying22 Tryd.infoInt rfl (by decide) (by decide) x4.sv x4.s.length (x4.s.map (Value.int .i64)) (by rfl) (H4.out.so.alloc _) _ 1 [.int .i64 t] (by rfl) (by rfl) (news_new w4 _ _ 1 1) (ones_int [t]) (by omega) ?_; intro v' w' hown hgr hat; obtain ⟨e12, f12⟩ := (H4.out.pushf _).2 w' hgr; obtain ⟨A', c', rfl⟩ := owns_slice hown)
            have hgs := H4.out.pushS _ hgr t _ hown hat
            clear hgr hown hat e12 f12 c12 c12b
            have HGS := Lib.hid hgs
            clear hgs
            refine bodyPost_ret (results_none rfl _ _ _) rfl (push_end HS4.out HN4.out HGS.out _ fun _ h => h)
          · have hd2 : (z == t) = false := by simpa using hz
            go_wp2
            go_roundw
            case rel => exact ⟨k + 1, by omega, by go_num, trivial⟩
            case measure => simp [intOf]; omega
        · have hd : decide ((k : Int) < 4) = false := by simp; omega
          go_wp2_with (go_at_call 61; refine (constant_any H1.out t (hm1.le (by omega))).mono ?_; rintro e w2 ⟨rfl, x2, hg2, hs2, hn2⟩)
          refine bodyPost_end (results_none rfl _ _ _) rfl ⟨rfl, _, hg2, HS1.out.trans hs2, HN1.out.trans hn2⟩
    · have hd1 : ((r1 : Int) == 1) = false := by simp; omega
      go_wp2_with (go_at_call 61; refine (constant_any H1.out t (hm1.le (by omega))).mono ?_; rintro e w2 ⟨rfl, x2, hg2, hs2, hn2⟩)
      refine bodyPost_end (results_none rfl _ _ _) rfl ⟨rfl, _, hg2, HS1.out.trans hs2, HN1.out.trans hn2⟩
end Go.Proofs.YtinljaobdnkifaaDoor
