/-
  Contracts of Within from 0 to 2^30, of a tape's Next.
-/
import Derived.Test.YtinljaobdnkifaaDoorKst
import Derived.BigQuiet
import Derived.Deep.QuietTactic
namespace Go.Proofs.YtinljaobdnkifaaDoor
open Go.RowKit

/-- A number brought into 0 .. 2^30. -/
def w30 (p : Int) : Int := if 0 ≤ p ∧ p ≤ 1073741824 then p else if p.tmod 1073741825 < 0 then p.tmod 1073741825 + 1073741825 else p.tmod 1073741825
theorem w30_bounds (p : Int) : 0 ≤ w30 p ∧ w30 p ≤ 1073741824 := by
  have t0 := Int.lt_tmod_of_pos p (show (0 : Int) < 1073741825 by omega)
  have t1 := Int.tmod_lt_of_pos p (show (0 : Int) < 1073741825 by omega)
  unfold w30
  split
  · omega
  · split <;> omega
theorem within30 (p : Int) (w : World) : Calls Tryd.prog 24 #[.int .i64 p, .int .i64 0, .int .i64 1073741824] w fun e w' => e = .returned (.int .i64 (w30 p)) ∧ w' = w := by
  have t0 := Int.lt_tmod_of_pos p (show (0 : Int) < 1073741825 by omega)
  have t1 := Int.tmod_lt_of_pos p (show (0 : Int) < 1073741825 by omega)
  have hbig : 0 ≤ p → w30 p = if p ≤ 1073741824 then p else p % 1073741825 := fun h => by
    unfold w30
    rw [Int.tmod_eq_emod_of_nonneg h]
    by_cases h2 : p ≤ 1073741824
    · rw [if_pos ⟨h, h2⟩, if_pos h2]
    · rw [if_neg (by omega), if_neg (by omega), if_neg h2]
  have H0 : 0 ≤ p → p ≤ 1073741824 → w30 p = p := fun h h2 => by rw [hbig h, if_pos h2]
  have H3 : 0 ≤ p → ¬ p ≤ 1073741824 → w30 p = p % 1073741825 := fun h h2 => by rw [hbig h, if_neg h2]
  have H1 : ¬ 0 ≤ p → p.tmod 1073741825 < 0 → w30 p = p.tmod 1073741825 + 1073741825 := fun h1 h2 => by unfold w30; rw [if_neg (by omega), if_pos h2]
  have H2 : ¬ 0 ≤ p → ¬ p.tmod 1073741825 < 0 → w30 p = p.tmod 1073741825 := fun h1 h2 => by unfold w30; rw [if_neg (by omega), if_neg h2]
  have HH0 := Lib.hid H0
  have HH1 := Lib.hid H1
  have HH2 := Lib.hid H2
  have HH3 := Lib.hid H3
  clear H0 H1 H2 H3 hbig
  go_enter Tryd.func24, Tryd.ntmps24
  by_cases hp : 0 ≤ p
  · go_wp2
    all_goals go_ret
    all_goals refine ⟨ret_int ?_, rfl⟩
    all_goals first
      | (rw [HH0.out (by omega) (by omega)]; done)
      | (rw [HH3.out (by omega) (by omega)]; done)
      | (rw [HH3.out (by omega) (by omega)]; omega)
  · go_wp2
    all_goals go_ret
    all_goals refine ⟨ret_int ?_, rfl⟩
    all_goals first
      | (rw [HH1.out (by omega) (by omega)]; done)
      | (rw [HH1.out (by omega) (by omega)]; omega)
      | (rw [HH2.out (by omega) (by omega)]; done)
      | (rw [HH2.out (by omega) (by omega)]; omega)

/-- A number below n comes back; the tape goes on. -/
def NextPost (T : Nat) (tv : Value) (m n : Nat) (w : World) (e : Ending) (w' : World) : Prop := ∃ r k' : Nat, e = .returned (.int .i64 (r : Int)) ∧ r < n ∧ k' ≤ m ∧ TapeTo T w w' tv k'

set_option maxHeartbeats 1000000 in
theorem next_any (K : Nat → Prop) (T : Nat) (tv : Value) (tl : List Int) (k n : Nat) (w : World) (hT : w.heap[T]? = some (.cells #[tv, .int .i64 (k : Int)] 50 (0, 0))) (hrow : IntsK K w tv tl) (hKT : ¬ K T) (hk : k ≤ tl.length) (h0 : 0 < n) (hn : n ≤ 1073741824) :
    Calls Tryd.prog 12 #[.pointer (some ⟨T, 0, none⟩), .int .i64 (n : Int)] w (NextPost T tv tl.length n w) := by
  obtain ⟨A, c, rfl, h1, hnil, h3⟩ := hrow
  have hc0 : w.cell? ⟨T, 0, none⟩ = some (.slice A tl.length c) := by simp [World.cell?, hT]
  have hc1 : w.cell? ⟨T, 1, none⟩ = some (.int .i64 (k : Int)) := by simp [World.cell?, hT]
  have hf1 : w.frozen? ⟨T, 1, none⟩ = false := by simp [World.frozen?, hT]
  have hTT := Lib.hid hT
  generalize hm : tl.length = m at *
  have hmc : m ≤ 9223372036854775807 := by unfold maxLen at h1; omega
  have HM := Lib.hid hm
  clear hT hnil h1 hm
  by_cases hlt : k < m
  · obtain ⟨g, o, rfl, hKg, hcell⟩ := h3 (by omega)
    have hd : decide ((m : Int) ≤ (k : Int)) = false := by simp; omega
    have hgT : g ≠ T := fun e => hKT (e ▸ hKg)
    have hck := hcell k hlt
    generalize tl.getD k 0 = x at hck
    have hx := w30_bounds x
    have hW := fun w => within30 x w
    generalize w30 x = y at hx hW
    have HW := Lib.hid hW
    clear hcell h3 hW
    have hk0 : (0 : Int) ≤ k := Int.natCast_nonneg _
    have hn0 : ((n : Int) == 0) = false := by simp; omega
    have hk1 : IntKind.i64.wrap ((k : Int) + 1) = (k : Int) + 1 := IntWalk.i64_in _ (by omega)
    have hk2 : IntKind.i64.wrap ((k : Int) + 1 - 1) = (k : Int) := by rw [show (k : Int) + 1 - 1 = k by omega]; exact IntWalk.i64_in _ (by omega)
    go_enter Tryd.func12, Tryd.ntmps12
    go_wp2_with fail
    go_quiet (fail)
    rename_i nq _
    go_wp2_with fail
    have ht1 : TapeTo T w ((w.drewN nq).setCell ⟨T, 1, none⟩ (.int .i64 ((k : Int) + 1))) (.slice (some ⟨g, o, none⟩) m c) (k + 1) :=
      ⟨rfl, rfl, rfl, by simp [World.setCell], fun b hb => Below.heap_setCell _ _ _ _ hb, by rw [heap_setCell_at (w.drewN nq) T 1 _ _ _ hTT.out]; simp⟩
    have hc0' : ((w.drewN nq).setCell ⟨T, 1, none⟩ (.int .i64 ((k : Int) + 1))).cell? ⟨T, 0, none⟩ = some (.slice (some ⟨g, o, none⟩) m c) := by simp [World.cell?, ht1.at_]
    have hc1' : ((w.drewN nq).setCell ⟨T, 1, none⟩ (.int .i64 ((k : Int) + 1))).cell? ⟨T, 1, none⟩ = some (.int .i64 ((k : Int) + 1)) := by simp [World.cell?, ht1.at_]
    have hck' : ((w.drewN nq).setCell ⟨T, 1, none⟩ (.int .i64 ((k : Int) + 1))).cell? ⟨g, o + k, none⟩ = some (.int .i64 x) := (World.cell?_of_block (w := w) (ht1.block g hgT)).trans hck
    clear hc0 hc1 hck hf1 hTT
    generalize (w.drewN nq).setCell ⟨T, 1, none⟩ (.int .i64 ((k : Int) + 1)) = w1 at *
    have HT1 := Lib.hid ht1
    clear ht1
    go_quiet ((go_at_call 24; exact Calls.quiet_of_same (HW.out _)))
    go_wp2
    go_ret
    have hnn : (0 : Int) < n := by omega
    have m0 := Int.emod_nonneg y (show (n : Int) ≠ 0 by omega)
    have m1 := Int.emod_lt_of_pos y hnn
    exact ⟨(y % n).toNat, k + 1, ret_int (by omega), by omega, by omega, HT1.out.os, HT1.out.tape, HT1.out.output, HT1.out.size, HT1.out.block, HT1.out.at_⟩
  · have hd : decide ((m : Int) ≤ (k : Int)) = true := by simp; omega
    have hk0 : (0 : Int) ≤ k := Int.natCast_nonneg _
    go_enter Tryd.func12, Tryd.ntmps12
    go_wp2_with fail
    go_quiet (fail)
    go_wp2
    go_ret
    exact ⟨0, k, rfl, h0, hk, rfl, rfl, rfl, rfl, fun _ _ => rfl, hTT.out⟩
end Go.Proofs.YtinljaobdnkifaaDoor
