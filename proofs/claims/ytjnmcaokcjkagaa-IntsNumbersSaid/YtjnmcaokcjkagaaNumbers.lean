/-
  IntsNumbers: the closed sentence's function returns true: the walk over its loops.
-/
import Derived.Test.YtjnmcaokcjkagaaSame
namespace Go.Proofs.Ytjnmcaokcjkagaa
open Go.RowKit

set_option maxRecDepth 100000 in
set_option maxHeartbeats 800000 in
theorem numbers_any (w : World) :
    Calls Try.prog 3 #[] w (BoolPost true w) := by
  go_enter Try.func3, Try.ntmps3
  go_wp2
  go_loopw [1, 2, 3] (fun op _ _ wr => ∃ j : Nat, j ≤ 256 ∧ op = .int .i64 (j : Int) ∧ Below w.heap.size w wr) (fun op _ _ _ => 256 - (intOf op).toNat)
  case atStart => exact ⟨0, by omega, rfl, Below.refl _ _⟩
  case round =>
    obtain ⟨j, hj, rfl, hacc⟩ := hrel
    obtain ⟨wo, rfl⟩ : ∃ wo : World, wo = wr := ⟨_, rfl⟩
    by_cases hlt : j < 256
    · have hd1 : decide ((j : Int) < 256) = true := by simp; omega
      go_wp2_with (first | (go_at_call 8; refine (is_any _ _).mono ?_; rintro e w' ⟨rfl, rfl⟩) | (go_at_call 9; refine (ris_any _ _).mono ?_; rintro e w' ⟨rfl, rfl⟩))
      go_loopw [2, 3] (fun i _ wr => ∃ p : Nat, p ≤ 21 ∧ i = .int .i64 (p : Int) ∧ Below w.heap.size w wr) (fun i _ _ => 21 - (intOf i).toNat)
      case atStart => exact ⟨0, by omega, rfl, hacc⟩
      case round =>
        clear hacc
        obtain ⟨p, hp, rfl, hacc⟩ := hrel
        obtain ⟨wp, rfl⟩ : ∃ wp : World, wp = wr := ⟨_, rfl⟩
        by_cases hlp : p < 21
        · have hd2 : decide ((p : Int) < 21) = true := by simp; omega
          go_wp2
          go_loopw [3] (fun k wr => ∃ q : Nat, q ≤ 21 ∧ k = .int .i64 (q : Int) ∧ Below w.heap.size w wr) (fun k _ => 21 - (intOf k).toNat)
          case atStart => exact ⟨0, by omega, rfl, hacc⟩
          case round =>
            clear hacc
            obtain ⟨q, hq, rfl, hacc⟩ := hrel
            by_cases hlq : q < 21
            · go_wp2_with (first | (go_at_call 10; refine (same_any _ _ _ _).mono ?_; rintro e w' ⟨rfl, hb⟩; replace hacc := below_then hacc hb; clear hb) | (go_at_call 11; refine (edge_any _ _).mono ?_; rintro e w' ⟨rfl, hb⟩; replace hacc := below_then hacc hb; clear hb))
              go_roundw
              case rel => exact ⟨q + 1, by omega, by go_num, hacc⟩
              case measure => simp [intOf]; omega
            · go_wp2
              go_roundw
              case rel => exact ⟨p + 1, by omega, by go_num, hacc⟩
              case measure => simp [intOf]; omega
        · go_wp2
          go_roundw
          case rel => exact ⟨j + 1, by omega, by go_num, hacc⟩
          case measure => simp [intOf]; omega
    · have hd1 : decide ((j : Int) < 256) = false := by simp; omega
      go_wp2
      go_loopw [4, 5] (fun n _ wr => ∃ j : Nat, j ≤ 73 ∧ n = .int .i64 (-3 + (j : Int)) ∧ Below w.heap.size w wr) (fun n _ _ => (100 - intOf n).toNat)
      case atStart => exact ⟨0, by omega, rfl, hacc⟩
      case round =>
        clear hacc
        obtain ⟨p, hp, rfl, hacc⟩ := hrel
        obtain ⟨wp, rfl⟩ : ∃ wp : World, wp = wr := ⟨_, rfl⟩
        by_cases hlp : p < 73
        · have hd2 : decide (-3 + (p : Int) < 70) = true := by simp; omega
          go_wp2
          go_loopw [5] (fun k wr => ∃ q : Nat, q ≤ 21 ∧ k = .int .i64 (q : Int) ∧ Below w.heap.size w wr) (fun k _ => 21 - (intOf k).toNat)
          case atStart => exact ⟨0, by omega, rfl, hacc⟩
          case round =>
            clear hacc
            obtain ⟨q, hq, rfl, hacc⟩ := hrel
            by_cases hlq : q < 21
            · go_wp2_with (first | (go_at_call 11; refine (edge_any _ _).mono ?_; rintro e w' ⟨rfl, hb⟩; replace hacc := below_then hacc hb; clear hb) | (go_at_call 12; refine (sign_any _ _ _).mono ?_; rintro e w' ⟨rfl, rfl⟩) | (go_at_call 13; refine (rsign_any _ _ _).mono ?_; rintro e w' ⟨rfl, rfl⟩))
              go_roundw
              case rel => exact ⟨q + 1, by omega, by go_num, hacc⟩
              case measure => simp [intOf]; omega
            · go_wp2
              go_roundw
              case rel => exact ⟨p + 1, by omega, by go_num, hacc⟩
              case measure => simp [intOf]; omega
        · go_wp2_with (go_at_call 14; refine (known_any _).mono ?_; rintro e w' ⟨rfl, hb⟩; replace hacc := below_then hacc hb; clear hb)
          go_ret
          exact ⟨rfl, hacc⟩
end Go.Proofs.Ytjnmcaokcjkagaa
