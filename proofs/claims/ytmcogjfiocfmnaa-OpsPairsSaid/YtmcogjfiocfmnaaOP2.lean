/-
  OpsPairs, at an operation of 2 numbers: the walk.
-/
import Derived.Test.YtmcogjfiocfmnaaOPairsM
namespace Go.Proofs.Ytmcogjfiocfmnaa
open Go.RowKit

set_option maxRecDepth 100000 in
set_option maxHeartbeats 4000000 in
theorem pairs_2 (k op a b : Int) (hop : allL.getD (withinN k) 0 = op) (hn : numB op = true) (hs : sigB op = (2, a, b)) (ha : isT a = true) (hb' : isT b = true)
    (x y : Int) (z d : Bool) (hacc' : accB op = (x, y, z, d)) (hxy : (0 < x ∧ (y != 0) = true ∧ d = true) ∨ (¬ 0 < x ∧ d = false)) (hk : knownB op = true) (hkinds : kinds op ≤ 1) (w : World) :
    Calls Try.prog 5 #[.int .i64 k] w (BoolPost true w) := by
  obtain ⟨i0, hi, hz0, hz1, hz2⟩ := info_parts Try.info_int
  have N := fun w => num_is op 2 (by omega) a b hn hs w
  have A := fun w => access_any op w
  rw [hacc'] at A
  have C := fun w => const_any op w
  have K := fun w => known_any op w
  rw [hk] at K
  have O := fun w => opens_any op w
  have hcnt := cnt_kinds op
  rw [hn, hacc'] at hcnt
  have hwb := within_bounds k
  have W := fun w => within_any k w
  generalize withinN k = r at hop hwb W
  generalize constB op = c at C hcnt
  generalize opensB op = o at O hcnt
  have hcl : cnt [true, d, c != 0, o] 4 ≤ 1 := by rw [hcnt]; exact hkinds
  have HTY := Lib.hid (types_at (List.replicate 2 a ++ [b]) (by intro x hx; simp at hx; rcases hx with rfl | rfl <;> assumption))
  have HN := Lib.hid N
  have HA := Lib.hid A
  have HC := Lib.hid C
  have HK := Lib.hid K
  have HO := Lib.hid O
  have HW := Lib.hid W
  have HOP := Lib.hid hop
  have HCL := Lib.hid hcl
  have HXY := Lib.hid hxy
  clear N A C K O W hop hn hacc' hk hcnt hkinds hcl hxy hs ha hb'
  go_enter Try.func5, Try.ntmps5
  go_wp2_with fail
  go_at_call 10
  refine (all_any _).mono ?_
  rintro e w1 ⟨v, rfl, hl, hacc⟩
  obtain ⟨gl, cl, rfl⟩ := all_form hl
  have cl0 := hl.at.2 r (by rw [all_length]; omega)
  rw [HOP.out] at cl0
  have HL := Lib.hid hl
  clear hl
  have hr0 : (0 : Int) ≤ (r : Int) := Int.natCast_nonneg _
  have hr1 : (r : Int) < 150 := by omega
  go_wp2_with (go_at_call 12; refine (HW.out _).mono ?_; rintro e w' ⟨rfl, rfl⟩)
  go_at_call 13
  refine (HN.out _).mono ?_
  rintro e w2 ⟨gp, cp, gq, cq, rfl, hp, hq, hb⟩
  have hh := held_first (t := 29) (HL.out.below hb) hp hq (below_then hacc hb)
  clear hp hq hb hacc cl0 HL
  go_wp2_with fail
  generalize w2.alloc (.cells #[.slice (some ⟨gp, 0, none⟩) 2 cp, .slice (some ⟨gq, 0, none⟩) 1 cq] 29) = wa at hh ⊢
  generalize w2.heap.size = s at hh ⊢
  go_wp2_with (first
    | (go_at_call 14; refine (HA.out _).mono ?_; rintro e w3 ⟨rfl, hb⟩; replace hh := hh.next hb; clear hb)
    | (go_at_call 15; refine (HC.out _).mono ?_; rintro e w' ⟨rfl, rfl⟩))
  go_loopw [13] (fun i wr => ∃ j : Nat, j ≤ 149 ∧ i = .int .i64 ((j : Int) + 1) ∧ Held w (.slice (some ⟨gl, 0, none⟩) 150 cl) s (.slice (some ⟨gp, 0, none⟩) 2 cp) (.slice (some ⟨gq, 0, none⟩) 1 cq) (List.replicate 2 a) [b] wr) (fun i _ => 150 - (intOf i).toNat)
  case atStart => exact ⟨0, Nat.zero_le _, rfl, hh⟩
  case round =>
    clear hh
    obtain ⟨j, hj, rfl, hh⟩ := hrel
    by_cases hlt : j < 149
    · have hd : decide ((j : Int) + 1 < 150) = true := by simp; omega
      have e0 := hh.rl.at.2 j (by rw [all_length]; omega)
      have e1 := hh.rl.at.2 (j + 1) (by rw [all_length]; omega)
      have hr := all_rise j hlt
      generalize allL.getD j 0 = p0 at e0 hr
      generalize allL.getD (j + 1) 0 = p1 at e1 hr
      go_wp2_with fail
      go_quiet (fail)
      all_goals
        go_wp2
        go_roundw
        case rel => exact ⟨j + 1, by omega, by go_num, hh.next (below_drewN (Below.refl _ _) _)⟩
        case measure => simp [intOf]; omega
    · have hd : decide ((j : Int) + 1 < 150) = false := by simp; omega
      have c0 := hh.c0
      have c1 := hh.c1
      have hlt0 := hh.lt
      clear hlt
      go_wp2_with fail
      go_region_held3 (fun w' => w'.cell? ⟨s, 0, none⟩ = some (.slice (some ⟨gp, 0, none⟩) 2 cp) ∧ w'.cell? ⟨s, 1, none⟩ = some (.slice (some ⟨gq, 0, none⟩) 1 cq))
        (first | go_keep | exact ⟨(hh.next hbw2).c0, (hh.next hbw2).c1⟩ | exact ⟨(hh.next hbw).c0, (hh.next hbw).c1⟩)
        ((first
          | (refine step_append_lies _ (by rfl) (.tmp 64) (.tmp 66) _ (by rfl) wr.heap.size 3 i0 _ 1 8 Try.underlying22 hi hz0 hz1 hz2 rfl (by decide) _ _ _ (by rfl) (owns_empty wr 3) ⟨gp, 0, none⟩ 2 cp (((List.replicate 2 a)).map (Value.int .i64)) (by rfl) (by rfl) (RowOf.news (hh.rp.below (below_empty wr 3))) (ints_one _) (by decide) (by decide) (by decide) (by simp) _ rfl ?_; intro g1 k1 w5 hown1 hgrow1 hat1 hlt1; have hbw := below_own (below_empty wr 3) hgrow1 (Nat.le_refl _))
          | (refine step_append_lies _ (by rfl) (.tmp 67) (.tmp 69) _ (by rfl) wr.heap.size 3 i0 _ 1 8 Try.underlying22 hi hz0 hz1 hz2 rfl (by decide) _ _ _ (by rfl) hown1 ⟨gq, 0, none⟩ 1 cq [.int .i64 b] (by rfl) (by rfl) (RowOf.news (hh.rq.below hbw)) (ints_one [b]) (by decide) (by decide) (by decide) hbw.size _ rfl ?_; intro g2 k2 w6 hown2 hgrow2 hat2 hlt2; have hbw2 := below_own hbw hgrow2 (own_ge hat1 (by simp)))))
      have hrow : RowOf w6 (.slice (some ⟨g2, 0, none⟩) 3 k2) (List.replicate 2 a ++ [b]) := row_owned (xs := (List.replicate 2 a ++ [b])) hown2 (by simp) (by simp)
      replace hh := hh.next hbw2
      clear hown1 hown2 hgrow1 hgrow2 hat1 hat2 hlt1 hlt2 hbw hbw2 c0 c1 hlt0 hd
      go_wp2
      go_loopw [72] (fun i wr => ∃ t : Nat, t ≤ 3 ∧ i = .int .i64 (t : Int) ∧ Held w (.slice (some ⟨gl, 0, none⟩) 150 cl) s (.slice (some ⟨gp, 0, none⟩) 2 cp) (.slice (some ⟨gq, 0, none⟩) 1 cq) (List.replicate 2 a) [b] wr ∧ RowOf wr (.slice (some ⟨g2, 0, none⟩) 3 k2) (List.replicate 2 a ++ [b])) (fun i _ => 3 - (intOf i).toNat)
      case atStart => exact ⟨0, Nat.zero_le _, rfl, hh, hrow⟩
      case round =>
        clear hh hrow
        obtain ⟨t, ht, rfl, hh, hrow⟩ := hrel
        by_cases hl2 : t < 3
        · have e0 := hrow.at.2 t (by simpa using hl2)
          have hy := HTY.out t (by simpa using hl2)
          generalize (List.replicate 2 a ++ [b]).getD t 0 = yy at e0 hy
          rcases isT_ways hy with rfl | rfl | rfl
          all_goals
            go_wp2
            go_roundw
            case rel => exact ⟨t + 1, by omega, by go_num, hh, hrow⟩
            case measure => simp [intOf]; omega
        · clear hrow
          have hd2 : decide ((t : Int) < 3) = false := by simp; omega
          go_wp2_with (go_at_call 16; refine (HO.out _).mono ?_; rintro e w' ⟨rfl, rfl⟩)
          have eb := new_bools wr 4 [true, d, c != 0, o]
          have hh2 := hh.next ((Below.refl wr.heap.size wr).alloc (Nat.le_refl _) (.cells #[.bool true, .bool d, .bool (c != 0), .bool o] 4))
          simp only [List.map_cons, List.map_nil] at eb
          clear hh
          generalize wr.alloc (.cells #[.bool true, .bool d, .bool (c != 0), .bool o] 4) = wc at eb hh2 ⊢
          generalize wr.heap.size = sb at eb ⊢
          have EB := Lib.hid eb
          clear eb
          go_loop [16, 94] (fun nn i => ∃ t : Nat, t ≤ 4 ∧ i = .int .i64 (t : Int) ∧ nn = .int .i64 ((cnt [true, d, c != 0, o] t : Nat) : Int)) (fun _ i => 4 - (intOf i).toNat)
          case atStart => exact ⟨0, Nat.zero_le _, rfl, rfl⟩
          case round =>
            obtain ⟨t3, ht3, rfl, rfl⟩ := hrel
            by_cases hl3 : t3 < 4
            · have e0 := EB.out t3 hl3
              have hcn := cnt_le [true, d, c != 0, o] t3
              have hcy := cnt_yes [true, d, c != 0, o] t3
              have hcz := cnt_no [true, d, c != 0, o] t3
              generalize [true, d, c != 0, o].getD t3 false = tb at e0 hcy hcz
              cases tb with
              | true =>
                have HY := Lib.hid (hcy rfl)
                clear hcy hcz
                go_wp2
                go_round
                case rel => exact ⟨t3 + 1, by omega, by go_num, by rw [HY.out]; go_num⟩
                case measure => simp [intOf]; omega
              | false =>
                have HZ := Lib.hid (hcz rfl)
                clear hcy hcz
                go_wp2
                go_round
                case rel => exact ⟨t3 + 1, by omega, by go_num, by rw [HZ.out]⟩
                case measure => simp [intOf]; omega
            · have hd3 : decide ((t3 : Int) < 4) = false := by simp; omega
              have h4 : t3 = 4 := by omega
              have hcl := HCL.out
              rw [← h4] at hcl
              clear h4
              generalize cnt [true, d, c != 0, o] t3 = nn at hcl ⊢
              have c1 := hh2.c1
              rcases HXY.out with ⟨q1, q2, rfl⟩ | ⟨q1, rfl⟩
              all_goals
                go_wp2_with (first
                  | (go_at_call 17; refine (HK.out _).mono ?_; rintro e w' ⟨rfl, hb⟩; replace hh2 := hh2.next hb; have c1 := hh2.c1; clear hb)
                  | (go_at_call 11; refine (all_known_any _).mono ?_; rintro e w' ⟨rfl, hb⟩; replace hh2 := hh2.next hb; clear hb))
                go_ret
                exact ⟨rfl, hh2.acc⟩
end Go.Proofs.Ytmcogjfiocfmnaa
