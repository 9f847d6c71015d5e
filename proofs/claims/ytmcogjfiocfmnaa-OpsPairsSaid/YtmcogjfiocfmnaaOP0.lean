/-
  OpsPairs, at an instruction that is no operation: the walk.
-/
import Derived.Test.YtmcogjfiocfmnaaOPairsM
namespace Go.Proofs.Ytmcogjfiocfmnaa
open Go.RowKit

set_option maxRecDepth 100000 in
set_option maxHeartbeats 4000000 in
theorem pairs_0 (k op : Int) (hop : allL.getD (withinN k) 0 = op) (hn : numB op = false)
    (x y : Int) (z d : Bool) (hacc' : accB op = (x, y, z, d)) (hxy : (0 < x ∧ (y != 0) = true ∧ d = true) ∨ (¬ 0 < x ∧ d = false)) (hk : knownB op = true) (hkinds : kinds op ≤ 1) (w : World) :
    Calls Try.prog 5 #[.int .i64 k] w (BoolPost true w) := by
  have N := fun w => num_not op hn w
  have A := fun w => access_any op w
  rw [hacc'] at A
  have C := fun w => const_any op w
  have K := fun w => known_any op w
  rw [hk] at K
  have O := fun w => opens_any op w
  have hcnt := cnt_kinds op
  rw [hn, hacc'] at hcnt
  have hwb := within_bounds k
  have W := fun w => within_any k w
  generalize withinN k = r at hop hwb W
  generalize constB op = c at C hcnt
  generalize opensB op = o at O hcnt
  have hcl : cnt [false, d, c != 0, o] 4 ≤ 1 := by rw [hcnt]; exact hkinds
  have HN := Lib.hid N
  have HA := Lib.hid A
  have HC := Lib.hid C
  have HK := Lib.hid K
  have HO := Lib.hid O
  have HW := Lib.hid W
  have HOP := Lib.hid hop
  have HCL := Lib.hid hcl
  have HXY := Lib.hid hxy
  clear N A C K O W hop hn hacc' hk hcnt hkinds hcl hxy
  go_enter Try.func5, Try.ntmps5
  go_wp2_with fail
  go_at_call 10
  refine (all_any _).mono ?_
  rintro e w1 ⟨v, rfl, hl, hacc⟩
  obtain ⟨gl, cl, rfl⟩ := all_form hl
  have cl0 := hl.at.2 r (by rw [all_length]; omega)
  rw [HOP.out] at cl0
  have HL := Lib.hid hl
  clear hl
  have hr0 : (0 : Int) ≤ (r : Int) := Int.natCast_nonneg _
  have hr1 : (r : Int) < 150 := by omega
  go_wp2_with (go_at_call 12; refine (HW.out _).mono ?_; rintro e w' ⟨rfl, rfl⟩)
  go_at_call 13
  refine (HN.out _).mono ?_
  rintro e w2 ⟨rfl, hb⟩
  have hh := held_first (t := 29) (HL.out.below hb) (p := .slice none 0 0) (q := .slice none 0 0) (ps := []) (rs := []) (.inl ⟨rfl, rfl⟩) (.inl ⟨rfl, rfl⟩) (below_then hacc hb)
  clear hb hacc cl0 HL
  go_wp2_with fail
  generalize w2.alloc (.cells #[.slice none 0 0, .slice none 0 0] 29) = wa at hh ⊢
  generalize w2.heap.size = s at hh ⊢
  go_wp2_with (first
    | (go_at_call 14; refine (HA.out _).mono ?_; rintro e w3 ⟨rfl, hb⟩; replace hh := hh.next hb; clear hb)
    | (go_at_call 15; refine (HC.out _).mono ?_; rintro e w' ⟨rfl, rfl⟩))
  go_loopw [13] (fun i wr => ∃ j : Nat, j ≤ 149 ∧ i = .int .i64 ((j : Int) + 1) ∧ Held w (.slice (some ⟨gl, 0, none⟩) 150 cl) s (.slice none 0 0) (.slice none 0 0) [] [] wr) (fun i _ => 150 - (intOf i).toNat)
  case atStart => exact ⟨0, Nat.zero_le _, rfl, hh⟩
  case round =>
    clear hh
    obtain ⟨j, hj, rfl, hh⟩ := hrel
    by_cases hlt : j < 149
    · have hd : decide ((j : Int) + 1 < 150) = true := by simp; omega
      have e0 := hh.rl.at.2 j (by rw [all_length]; omega)
      have e1 := hh.rl.at.2 (j + 1) (by rw [all_length]; omega)
      have hr := all_rise j hlt
      generalize allL.getD j 0 = p0 at e0 hr
      generalize allL.getD (j + 1) 0 = p1 at e1 hr
      go_wp2_with fail
      go_quiet (fail)
      all_goals
        go_wp2
        go_roundw
        case rel => exact ⟨j + 1, by omega, by go_num, hh.next (below_drewN (Below.refl _ _) _)⟩
        case measure => simp [intOf]; omega
    · have hd : decide ((j : Int) + 1 < 150) = false := by simp; omega
      have c0 := hh.c0
      have c1 := hh.c1
      have hlt0 := hh.lt
      clear hlt
      go_wp2_with fail
      go_region_held3 (fun w' => w'.cell? ⟨s, 0, none⟩ = some (.slice none 0 0) ∧ w'.cell? ⟨s, 1, none⟩ = some (.slice none 0 0)) (first | go_keep) (fail)
      replace hh := hh.next (below_empty wr 3)
      clear c0 c1 hlt0 hd
      go_wp2
      go_loopw [72] (fun i wr => i = .int .i64 0 ∧ Held w (.slice (some ⟨gl, 0, none⟩) 150 cl) s (.slice none 0 0) (.slice none 0 0) [] [] wr) (fun _ _ => 0)
      case atStart => exact ⟨rfl, hh⟩
      case round =>
        clear hh
        obtain ⟨rfl, hh⟩ := hrel
        by_cases hl2 : False
        · exact hl2.elim
        · clear hl2
          go_wp2_with (go_at_call 16; refine (HO.out _).mono ?_; rintro e w' ⟨rfl, rfl⟩)
          have eb := new_bools wr 4 [false, d, c != 0, o]
          have hh2 := hh.next ((Below.refl wr.heap.size wr).alloc (Nat.le_refl _) (.cells #[.bool false, .bool d, .bool (c != 0), .bool o] 4))
          simp only [List.map_cons, List.map_nil] at eb
          clear hh
          generalize wr.alloc (.cells #[.bool false, .bool d, .bool (c != 0), .bool o] 4) = wc at eb hh2 ⊢
          generalize wr.heap.size = sb at eb ⊢
          have EB := Lib.hid eb
          clear eb
          go_loop [16, 94] (fun nn i => ∃ t : Nat, t ≤ 4 ∧ i = .int .i64 (t : Int) ∧ nn = .int .i64 ((cnt [false, d, c != 0, o] t : Nat) : Int)) (fun _ i => 4 - (intOf i).toNat)
          case atStart => exact ⟨0, Nat.zero_le _, rfl, rfl⟩
          case round =>
            obtain ⟨t3, ht3, rfl, rfl⟩ := hrel
            by_cases hl3 : t3 < 4
            · have e0 := EB.out t3 hl3
              have hcn := cnt_le [false, d, c != 0, o] t3
              have hcy := cnt_yes [false, d, c != 0, o] t3
              have hcz := cnt_no [false, d, c != 0, o] t3
              generalize [false, d, c != 0, o].getD t3 false = tb at e0 hcy hcz
              cases tb with
              | true =>
                have HY := Lib.hid (hcy rfl)
                clear hcy hcz
                go_wp2
                go_round
                case rel => exact ⟨t3 + 1, by omega, by go_num, by rw [HY.out]; go_num⟩
                case measure => simp [intOf]; omega
              | false =>
                have HZ := Lib.hid (hcz rfl)
                clear hcy hcz
                go_wp2
                go_round
                case rel => exact ⟨t3 + 1, by omega, by go_num, by rw [HZ.out]⟩
                case measure => simp [intOf]; omega
            · have hd3 : decide ((t3 : Int) < 4) = false := by simp; omega
              have h4 : t3 = 4 := by omega
              have hcl := HCL.out
              rw [← h4] at hcl
              clear h4
              generalize cnt [false, d, c != 0, o] t3 = nn at hcl ⊢
              have c1 := hh2.c1
              rcases HXY.out with ⟨q1, q2, rfl⟩ | ⟨q1, rfl⟩
              all_goals
                go_wp2_with (first
                  | (go_at_call 17; refine (HK.out _).mono ?_; rintro e w' ⟨rfl, hb⟩; replace hh2 := hh2.next hb; have c1 := hh2.c1; clear hb)
                  | (go_at_call 11; refine (all_known_any _).mono ?_; rintro e w' ⟨rfl, hb⟩; replace hh2 := hh2.next hb; clear hb))
                go_ret
                exact ⟨rfl, hh2.acc⟩
end Go.Proofs.Ytmcogjfiocfmnaa
