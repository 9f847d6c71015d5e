/-
  OpsNumbers: the closed sentence's function returns true: the walk over its loops.
-/
import Derived.Test.YtmcogjfiocfmnaaOsm
import Derived.Test.YtmcogjfiocfmnaaOall
namespace Go.Proofs.Ytmcogjfiocfmnaa
open Go.RowKit

set_option maxRecDepth 100000 in
set_option maxHeartbeats 2000000 in
theorem numbers_any (w : World) : Calls Try.prog 3 #[] w (BoolPost true w) := by
  obtain ⟨i0, hi, hz0, hz1, hz2⟩ := info_parts Try.info_int
  go_enter Try.func3, Try.ntmps3
  go_wp2
  go_loopw [1, 2] (fun v i wr => ∃ j : Nat, j ≤ 275 ∧ i = .int .i64 (-3 + (j : Int)) ∧ wr.ownsRow w.heap.size 3 1 v (gather (-3) j).length ((gather (-3) j).map (Value.int .i64)) ∧ Below w.heap.size w wr) (fun _ i _ => (272 - intOf i).toNat)
  case atStart => exact ⟨0, Nat.zero_le _, rfl, World.ownsRow_nil _ _ _ _, Below.refl _ _⟩
  case round =>
    obtain ⟨j, hj, rfl, hown, hnx⟩ := hrel
    obtain ⟨wo, rfl⟩ : ∃ wo : World, wo = wr := ⟨_, rfl⟩
    by_cases hlt : j < 275
    · have hd1 : decide (-3 + (j : Int) < 272) = true := by simp; omega
      have hlg := gather_le (-3) j
      have hla : (gather (-3) j).length ≤ 768 := by omega
      cases hB : knownB (-3 + (j : Int)) with
      | true =>
        have hg := gather_yes (-3) j hB
        have K := fun w => rknown_any (-3 + (j : Int)) w
        rw [hB] at K
        have HK := Lib.hid K
        have HG := Lib.hid hg
        clear K hg hB
        go_wp2_with (first
          | (go_at_call 7; refine (same_any _ _).mono ?_; rintro e w3 ⟨rfl, hb⟩; replace hown := owns_below hown hb; replace hnx := below_then hnx hb; clear hb)
          | (go_at_call 8; refine (HK.out _).mono ?_; rintro e w' ⟨rfl, hb⟩; replace hown := owns_below hown hb; replace hnx := below_then hnx hb; clear hb)
          | (at_builtin; refine wpList_append_own _ rfl _ _ 22 rfl w.heap.size 3 i0 (.int .i64 0) 1 8 Try.underlying22 hi hz0 hz1 hz2 rfl (by decide) _ _ _ rfl (hown.alloc _) ⟨w'.heap.size, 0, none⟩ 1 1 [.int .i64 (-3 + (j : Int))] rfl rfl ?c1 ?c2 ?c3 ?c4 ?c5 ?_))
        case c1 =>
          intro j' u hj'
          match j', hj' with
          | 0, hj' => simp at hj'; subst hj'; simp [Addr.add]
        case c2 => intro u hu; simp at hu; subst hu; rfl
        case c3 => unfold maxLen; omega
        case c4 => omega
        case c5 => have := hnx.size; simp; omega
        · intro v' w1 hown' hgrow _
          have hnx1 : Below w.heap.size w w1 := (hnx.alloc hnx.size _).grown hgrow (by have := hnx.size; simp; omega) (fun k hk => (hown.lt k hk).1)
          have hown1 : w1.ownsRow w.heap.size 3 1 v' (gather (-3) (j + 1)).length ((gather (-3) (j + 1)).map (Value.int .i64)) := by rw [HG.out]; simpa [Nat.add_assoc] using hown'
          clear hown hgrow hown' hnx
          go_wp2
          go_roundw
          case rel => exact ⟨j + 1, by omega, by go_num, hown1, hnx1⟩
          case measure => simp [intOf]; omega
      | false =>
        have hg := gather_no (-3) j hB
        have K := fun w => rknown_any (-3 + (j : Int)) w
        rw [hB] at K
        have HK := Lib.hid K
        have HG := Lib.hid hg
        clear K hg hB
        go_wp2_with (first
          | (go_at_call 7; refine (same_any _ _).mono ?_; rintro e w3 ⟨rfl, hb⟩; replace hown := owns_below hown hb; replace hnx := below_then hnx hb; clear hb)
          | (go_at_call 8; refine (HK.out _).mono ?_; rintro e w' ⟨rfl, hb⟩; replace hown := owns_below hown hb; replace hnx := below_then hnx hb; clear hb))
        go_roundw
        case rel => exact ⟨j + 1, by omega, by go_num, by rw [HG.out]; exact hown, hnx⟩
        case measure => simp [intOf]; omega
    · have hd1 : decide (-3 + (j : Int) < 272) = false := by simp; omega
      have hj2 : j = 275 := by omega
      rw [hj2] at hown
      clear hj2
      go_wp2
      go_loopw [1, 3] (fun v i wr => ∃ j : Nat, j ≤ 32 ∧ i = .int .i64 (64512 + (j : Int)) ∧ wr.ownsRow w.heap.size 3 1 v (gather (-3) 275 ++ gather 64512 j).length ((gather (-3) 275 ++ gather 64512 j).map (Value.int .i64)) ∧ Below w.heap.size w wr) (fun _ i _ => (64544 - intOf i).toNat)
      case atStart => exact ⟨0, Nat.zero_le _, rfl, by simpa [gather_zero] using hown, hnx⟩
      case round =>
        clear hown hnx
        clear hd1 hlt hj
        obtain ⟨j, hj, rfl, hown, hnx⟩ := hrel
        obtain ⟨wp, rfl⟩ : ∃ wp : World, wp = wr := ⟨_, rfl⟩
        by_cases hlt : j < 32
        · have hd1 : decide (64512 + (j : Int) < 64544) = true := by simp; omega
          have hlg := gather_le 64512 j
          have hla : (gather (-3) 275 ++ gather 64512 j).length ≤ 768 := by have := gather_le (-3) 275; simp; omega
          cases hB : knownB (64512 + (j : Int)) with
          | true =>
            have hg := gather_yes 64512 j hB
            have K := fun w => rknown_any (64512 + (j : Int)) w
            rw [hB] at K
            have HK := Lib.hid K
            have HG := Lib.hid hg
            clear K hg hB
            go_wp2_with (first
              | (go_at_call 8; refine (HK.out _).mono ?_; rintro e w' ⟨rfl, hb⟩; replace hown := owns_below hown hb; replace hnx := below_then hnx hb; clear hb)
              | (at_builtin; refine wpList_append_own _ rfl _ _ 22 rfl w.heap.size 3 i0 (.int .i64 0) 1 8 Try.underlying22 hi hz0 hz1 hz2 rfl (by decide) _ _ _ rfl (hown.alloc _) ⟨w'.heap.size, 0, none⟩ 1 1 [.int .i64 (64512 + (j : Int))] rfl rfl ?c1 ?c2 ?c3 ?c4 ?c5 ?_))
            case c1 =>
              intro j' u hj'
              match j', hj' with
              | 0, hj' => simp at hj'; subst hj'; simp [Addr.add]
            case c2 => intro u hu; simp at hu; subst hu; rfl
            case c3 => unfold maxLen; omega
            case c4 => omega
            case c5 => have := hnx.size; simp; omega
            · intro v' w1 hown' hgrow _
              have hnx1 : Below w.heap.size w w1 := (hnx.alloc hnx.size _).grown hgrow (by have := hnx.size; simp; omega) (fun k hk => (hown.lt k hk).1)
              have hown1 : w1.ownsRow w.heap.size 3 1 v' (gather (-3) 275 ++ gather 64512 (j + 1)).length ((gather (-3) 275 ++ gather 64512 (j + 1)).map (Value.int .i64)) := by rw [HG.out]; simpa [Nat.add_assoc] using hown'
              clear hown hgrow hown' hnx
              go_wp2
              go_roundw
              case rel => exact ⟨j + 1, by omega, by go_num, hown1, hnx1⟩
              case measure => simp [intOf]; omega
          | false =>
            have hg := gather_no 64512 j hB
            have K := fun w => rknown_any (64512 + (j : Int)) w
            rw [hB] at K
            have HK := Lib.hid K
            have HG := Lib.hid hg
            clear K hg hB
            go_wp2_with (first
              | (go_at_call 8; refine (HK.out _).mono ?_; rintro e w' ⟨rfl, hb⟩; replace hown := owns_below hown hb; replace hnx := below_then hnx hb; clear hb))
            go_roundw
            case rel => exact ⟨j + 1, by omega, by go_num, by rw [HG.out]; exact hown, hnx⟩
            case measure => simp [intOf]; omega
        · have hd2 : decide (64512 + (j : Int) < 64544) = false := by simp; omega
          have hj2 : j = 32 := by omega
          rw [hj2, all_other] at hown
          clear hj2
          have hr2 := row_owned hown (by rw [all_length]; omega) (by rw [all_length]; omega)
          have HR := Lib.hid hr2
          clear hown hr2
          go_wp2_with fail
          go_at_call 10
          refine (all_any _).mono ?_
          rintro e w1 ⟨v', rfl, hr, hb⟩
          have hr2 := HR.out.below hb
          replace hnx := below_then hnx hb
          clear hb HR
          go_wp2_with (first
            | (go_at_call 9; refine (same_rows hr hr2).mono ?_; rintro e w' ⟨rfl, hb⟩; replace hnx := below_then hnx hb; clear hb)
            | (go_at_call 11; refine (all_known_any _).mono ?_; rintro e w' ⟨rfl, hb⟩; replace hnx := below_then hnx hb; clear hb))
          go_ret
          exact ⟨rfl, hnx⟩
end Go.Proofs.Ytmcogjfiocfmnaa
