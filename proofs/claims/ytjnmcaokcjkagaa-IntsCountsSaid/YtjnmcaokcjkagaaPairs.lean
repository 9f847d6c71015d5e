/-
  IntsPairs: whatever the two words, the statement's function returns true: the walk.
-/
import Derived.Test.YtjnmcaokcjkagaaSame
import Derived.Test.YtjnmcaokcjkagaaPairsM
namespace Go.Proofs.Ytjnmcaokcjkagaa
open Go.RowKit

/-- The word that Do gives, and the trap. -/
def pw (op : Int) (a b : BitVec 64) : BitVec 64 := (doB op a b).1
def pt (op : Int) (a b : BitVec 64) : Int := (doB op a b).2
theorem do_pw (op : Int) (a b : BitVec 64) (w : World) : Calls Try.prog 16 #[.int .i64 op, .int .u64 (U a), .int .u64 (U b)] w fun e w' => e = .returned (.tuple #[.int .u64 (U (pw op a b)), .int .i64 (pt op a b)]) ∧ ∃ k, w' = w.drewN k := do_any op a b w

/-- A width's first computation (sum) and its bits. -/
def Width (B n : Int) : Prop := (B = 106 ∧ n = 32) ∨ (B = 124 ∧ n = 64)
theorem width_op (B n k : Int) (h : Width B n) (k0 : 0 ≤ k) (k1 : k ≤ 17) (x y : BitVec 64) (hx : x.toNat < 2 ^ n.toNat) (hy : y.toNat < 2 ^ n.toNat) : doB (B - 3 + k) x y = arOp k n x y := by
  unfold arOp
  rcases h with ⟨rfl, rfl⟩ | ⟨rfl, rfl⟩
  · rw [do_a32 _ x y (by omega) (by omega), cutB_of_lt x 32 (by decide) hx, cutB_of_lt y 32 (by decide) hy, show (106 - 3 + k - 103 : Int) = k by omega]; rfl
  · rw [do_a64 _ x y (by omega) (by omega), show (124 - 3 + k - 121 : Int) = k by omega]
    show _ = (cutB _ 64, _)
    rw [cutB_64]
theorem width_n (B n : Int) (h : Width B n) : 1 ≤ n ∧ n ≤ 64 := by rcases h with ⟨rfl, rfl⟩ | ⟨rfl, rfl⟩ <;> omega
theorem width_pw (B n k : Int) (h : Width B n) (k0 : 0 ≤ k) (k1 : k ≤ 17) (op : Int) (hop : op = B - 3 + k) (x y : BitVec 64) (hx : x.toNat < 2 ^ n.toNat) (hy : y.toNat < 2 ^ n.toNat) : pw op x y = cutB (arRaw k n x y).1 n.toNat ∧ pt op x y = (arRaw k n x y).2 := by
  have e := width_op B n k h k0 k1 x y hx hy
  unfold pw pt; rw [hop, e]; exact ⟨rfl, rfl⟩

theorem sum_back (B n : Int) (h : Width B n) (x y : BitVec 64) (hx : x.toNat < 2 ^ n.toNat) (hy : y.toNat < 2 ^ n.toNat) : pw (B + 1) (pw B x y) y = x := by
  have hn := width_n B n h
  have a := (width_pw B n 3 h (by decide) (by decide) B (by omega) x y hx hy).1
  have hs : (pw B x y).toNat < 2 ^ n.toNat := by rw [a]; exact cutB_lt _ _ (by omega)
  have b := (width_pw B n 4 h (by decide) (by decide) (B + 1) (by omega) (pw B x y) y hs hy).1
  rw [b, a]
  exact sum_less x y n.toNat (by omega) hx
theorem turn_back (B n : Int) (h : Width B n) (x y : BitVec 64) (hx : x.toNat < 2 ^ n.toNat) (hy : y.toNat < 2 ^ n.toNat) : pw (B + 14) (pw (B + 13) x y) y = x := by
  have hn := width_n B n h
  have a := (width_pw B n 16 h (by decide) (by decide) (B + 13) (by omega) x y hx hy).1
  have hs : (pw (B + 13) x y).toNat < 2 ^ n.toNat := by rw [a]; exact cutB_lt _ _ (by omega)
  have b := (width_pw B n 17 h (by decide) (by decide) (B + 14) (by omega) (pw (B + 13) x y) y hs hy).1
  rw [b, a]
  have hsh : shN n y ≤ n.toNat := by
    unfold shN
    have := Int.emod_lt_of_pos (U y) (show 0 < n by omega)
    omega
  exact rot_back x n.toNat (shN n y) (by omega) hsh hx

/-- One round: by zero both trap; the least number by -1 traps once; else quotient and remainder give the number back. -/
def Round (B k : Int) (x y : BitVec 64) : Prop :=
  (U y = 0 ∧ pt (B + k) x y = 2 ∧ pt (B + k + 2) x y = 2) ∨
  (U y ≠ 0 ∧ pt (B + k) x y = 3 ∧ pt (B + k + 2) x y = 0) ∨
  (U y ≠ 0 ∧ pt (B + k) x y = 0 ∧ pt (B + k + 2) x y = 0 ∧ pw B (pw (B + 2) (pw (B + k) x y) y) (pw (B + k + 2) x y) = x)
theorem round_s (B n : Int) (h : Width B n) (x y : BitVec 64) (hx : x.toNat < 2 ^ n.toNat) (hy : y.toNat < 2 ^ n.toNat) : Round B 3 x y := by
  have hn := width_n B n h
  have q := width_pw B n 6 h (by decide) (by decide) (B + 3) (by omega) x y hx hy
  have r := width_pw B n 8 h (by decide) (by decide) (B + 3 + 2) (by omega) x y hx hy
  have eq : arRaw 6 n x y = divB 0 n x y := rfl
  have er : arRaw 8 n x y = divB 2 n x y := rfl
  rw [eq] at q; rw [er] at r
  by_cases hz : U y = 0
  · rw [div_zero _ _ _ _ hz] at q r
    exact .inl ⟨hz, q.2, r.2⟩
  · rw [div_sr n x y hz] at r
    by_cases ho : U x = IntKind.u64.wrap (2 ^ (n.toNat - 1)) ∧ S (signSpec y n) = -1
    · rw [div_over n x y hz ho.1 ho.2] at q
      exact .inr (.inl ⟨hz, q.2, r.2⟩)
    · rw [div_sq n x y hz ho] at q
      refine .inr (.inr ⟨hz, q.2, r.2, ?_⟩)
      have hq : (pw (B + 3) x y).toNat < 2 ^ n.toNat := by rw [q.1]; exact cutB_lt _ _ (by omega)
      have hr : (pw (B + 3 + 2) x y).toNat < 2 ^ n.toNat := by rw [r.1]; exact cutB_lt _ _ (by omega)
      have p := (width_pw B n 5 h (by decide) (by decide) (B + 2) (by omega) (pw (B + 3) x y) y hq hy).1
      have hp : (pw (B + 2) (pw (B + 3) x y) y).toNat < 2 ^ n.toNat := by rw [p]; exact cutB_lt _ _ (by omega)
      have z := (width_pw B n 3 h (by decide) (by decide) B (by omega) _ _ hp hr).1
      rw [z, p, q.1, r.1]
      exact quo_rem x y n hn.1 hn.2 hx
theorem round_u (B n : Int) (h : Width B n) (x y : BitVec 64) (hx : x.toNat < 2 ^ n.toNat) (hy : y.toNat < 2 ^ n.toNat) : Round B 4 x y := by
  have hn := width_n B n h
  have q := width_pw B n 7 h (by decide) (by decide) (B + 4) (by omega) x y hx hy
  have r := width_pw B n 9 h (by decide) (by decide) (B + 4 + 2) (by omega) x y hx hy
  have eq : arRaw 7 n x y = divB 1 n x y := rfl
  have er : arRaw 9 n x y = divB 3 n x y := rfl
  rw [eq] at q; rw [er] at r
  by_cases hz : U y = 0
  · rw [div_zero _ _ _ _ hz] at q r
    exact .inl ⟨hz, q.2, r.2⟩
  · rw [div_ur n x y hz] at r
    rw [div_uq n x y hz] at q
    refine .inr (.inr ⟨hz, q.2, r.2, ?_⟩)
    have hq : (pw (B + 4) x y).toNat < 2 ^ n.toNat := by rw [q.1]; exact cutB_lt _ _ (by omega)
    have hr : (pw (B + 4 + 2) x y).toNat < 2 ^ n.toNat := by rw [r.1]; exact cutB_lt _ _ (by omega)
    have p := (width_pw B n 5 h (by decide) (by decide) (B + 2) (by omega) (pw (B + 4) x y) y hq hy).1
    have hp : (pw (B + 2) (pw (B + 4) x y) y).toNat < 2 ^ n.toNat := by rw [p]; exact cutB_lt _ _ (by omega)
    have z := (width_pw B n 3 h (by decide) (by decide) B (by omega) _ _ hp hr).1
    rw [z, p, q.1, r.1]
    exact quo_remU x y n.toNat (by omega) hx

theorem order_one (X Y : Int) : IntKind.u64.wrap (U (tw (decide (X < Y))) + U (tw (decide (Y ≤ X)))) = 1 := by
  by_cases h : X < Y
  · rw [decide_eq_true h, decide_eq_false (show ¬ Y ≤ X by omega)]; rfl
  · rw [decide_eq_false h, decide_eq_true (show Y ≤ X by omega)]; rfl
theorem order_s (a b : BitVec 64) : IntKind.u64.wrap (U (pw 83 a b) + U (pw 89 a b)) = 1 := order_one (S (signSpec a 64)) (S (signSpec b 64))
theorem order_u (a b : BitVec 64) : IntKind.u64.wrap (U (pw 84 a b) + U (pw 90 a b)) = 1 := order_one (U a) (U b)

set_option maxRecDepth 100000 in
set_option maxHeartbeats 1600000 in
theorem pairs_any (a b : BitVec 64) (w : World) :
    Calls Try.prog 5 #[.int .u64 (U a), .int .u64 (U b)] w (BoolPost true w) := by
  go_enter Try.func5, Try.ntmps5
  go_wp2
  go_loopw [36] (fun i wr => ∃ j k : Nat, j ≤ 2 ∧ i = .int .i64 (j : Int) ∧ wr = (w.alloc (.cells #[.int .i64 106, .int .i64 124] 3)).drewN k) (fun i _ => 2 - (intOf i).toNat)
  case atStart => exact ⟨0, 0, by omega, rfl, rfl⟩
  case round =>
    obtain ⟨j, k, hj, rfl, rfl⟩ := hrel
    obtain rfl | rfl | rfl : j = 0 ∨ j = 1 ∨ j = 2 := by omega
    · have r1 := lowU a
      have r2 := lowU b
      have f1 : pw 107 (pw 106 (cutB a 32) (cutB b 32)) (cutB b 32) = (cutB a 32) := sum_back 106 32 (.inl ⟨rfl, rfl⟩) _ _ (cutB_lt a 32 (by decide)) (cutB_lt b 32 (by decide))
      have f2 : pw 120 (pw 119 (cutB a 32) (cutB b 32)) (cutB b 32) = (cutB a 32) := turn_back 106 32 (.inl ⟨rfl, rfl⟩) _ _ (cutB_lt a 32 (by decide)) (cutB_lt b 32 (by decide))
      have rs := Lib.hid (round_s 106 32 (.inl ⟨rfl, rfl⟩) (cutB a 32) (cutB b 32) (cutB_lt a 32 (by decide)) (cutB_lt b 32 (by decide)))
      have ru := Lib.hid (round_u 106 32 (.inl ⟨rfl, rfl⟩) (cutB a 32) (cutB b 32) (cutB_lt a 32 (by decide)) (cutB_lt b 32 (by decide)))
      go_wp2_with (go_at_call 16; refine (do_pw _ _ _ _).mono ?_; rintro e w' ⟨rfl, k, rfl⟩)
      go_loopw [17] (fun i wr => ∃ p q : Nat, p ≤ 2 ∧ i = .int .i64 (3 + (p : Int)) ∧ wr = (w.alloc (.cells #[.int .i64 106, .int .i64 124] 3)).drewN q) (fun i _ => 9 - (intOf i).toNat)
      case atStart => exact ⟨0, _, by omega, rfl, rfl⟩
      case round =>
        obtain ⟨p, q, hp, rfl, rfl⟩ := hrel
        obtain rfl | rfl | rfl : p = 0 ∨ p = 1 ∨ p = 2 := by omega
        · rcases rs.out with ⟨hz, e1, e2⟩ | ⟨hz, e1, e2⟩ | ⟨hz, e1, e2, e3⟩
          all_goals clear rs ru
          · have hz2 : (U (cutB b 32) == 0) = true := by simp [hz]
            clear hz
            have g1 : pt 109 (cutB a 32) (cutB b 32) = 2 := e1
            have g2 : pt 111 (cutB a 32) (cutB b 32) = 2 := e2
            clear e1 e2
            go_wp2_with (go_at_call 16; refine (do_pw _ _ _ _).mono ?_; rintro e w' ⟨rfl, k, rfl⟩)
            go_roundw
            case rel => exact ⟨1, _, by omega, rfl, rfl⟩
            case measure => simp [intOf]
          · have hz2 : (U (cutB b 32) == 0) = false := by simp [hz]
            clear hz
            have g1 : pt 109 (cutB a 32) (cutB b 32) = 3 := e1
            have g2 : pt 111 (cutB a 32) (cutB b 32) = 0 := e2
            clear e1 e2
            go_wp2_with (go_at_call 16; refine (do_pw _ _ _ _).mono ?_; rintro e w' ⟨rfl, k, rfl⟩)
            go_roundw
            case rel => exact ⟨1, _, by omega, rfl, rfl⟩
            case measure => simp [intOf]
          · have hz2 : (U (cutB b 32) == 0) = false := by simp [hz]
            clear hz
            have g1 : pt 109 (cutB a 32) (cutB b 32) = 0 := e1
            have g2 : pt 111 (cutB a 32) (cutB b 32) = 0 := e2
            have g3 : pw 106 (pw 108 (pw 109 (cutB a 32) (cutB b 32)) (cutB b 32)) (pw 111 (cutB a 32) (cutB b 32)) = (cutB a 32) := e3
            clear e1 e2 e3
            go_wp2_with (go_at_call 16; refine (do_pw _ _ _ _).mono ?_; rintro e w' ⟨rfl, k, rfl⟩)
            go_roundw
            case rel => exact ⟨1, _, by omega, rfl, rfl⟩
            case measure => simp [intOf]
        · rcases ru.out with ⟨hz, e1, e2⟩ | ⟨hz, e1, e2⟩ | ⟨hz, e1, e2, e3⟩
          all_goals clear rs ru
          · have hz2 : (U (cutB b 32) == 0) = true := by simp [hz]
            clear hz
            have g1 : pt 110 (cutB a 32) (cutB b 32) = 2 := e1
            have g2 : pt 112 (cutB a 32) (cutB b 32) = 2 := e2
            clear e1 e2
            go_wp2_with (go_at_call 16; refine (do_pw _ _ _ _).mono ?_; rintro e w' ⟨rfl, k, rfl⟩)
            go_roundw
            case rel => exact ⟨2, _, by omega, rfl, rfl⟩
            case measure => simp [intOf]
          · have hz2 : (U (cutB b 32) == 0) = false := by simp [hz]
            clear hz
            have g1 : pt 110 (cutB a 32) (cutB b 32) = 3 := e1
            have g2 : pt 112 (cutB a 32) (cutB b 32) = 0 := e2
            clear e1 e2
            go_wp2_with (go_at_call 16; refine (do_pw _ _ _ _).mono ?_; rintro e w' ⟨rfl, k, rfl⟩)
            go_roundw
            case rel => exact ⟨2, _, by omega, rfl, rfl⟩
            case measure => simp [intOf]
          · have hz2 : (U (cutB b 32) == 0) = false := by simp [hz]
            clear hz
            have g1 : pt 110 (cutB a 32) (cutB b 32) = 0 := e1
            have g2 : pt 112 (cutB a 32) (cutB b 32) = 0 := e2
            have g3 : pw 106 (pw 108 (pw 110 (cutB a 32) (cutB b 32)) (cutB b 32)) (pw 112 (cutB a 32) (cutB b 32)) = (cutB a 32) := e3
            clear e1 e2 e3
            go_wp2_with (go_at_call 16; refine (do_pw _ _ _ _).mono ?_; rintro e w' ⟨rfl, k, rfl⟩)
            go_roundw
            case rel => exact ⟨2, _, by omega, rfl, rfl⟩
            case measure => simp [intOf]
        · clear rs ru
          go_wp2
          go_roundw
          case rel => exact ⟨1, _, by omega, rfl, rfl⟩
          case measure => simp [intOf]
    · have f1 : pw 125 (pw 124 a b) b = a := sum_back 124 64 (.inr ⟨rfl, rfl⟩) _ _ a.isLt b.isLt
      have f2 : pw 138 (pw 137 a b) b = a := turn_back 124 64 (.inr ⟨rfl, rfl⟩) _ _ a.isLt b.isLt
      have rs := Lib.hid (round_s 124 64 (.inr ⟨rfl, rfl⟩) a b a.isLt b.isLt)
      have ru := Lib.hid (round_u 124 64 (.inr ⟨rfl, rfl⟩) a b a.isLt b.isLt)
      go_wp2_with (go_at_call 16; refine (do_pw _ _ _ _).mono ?_; rintro e w' ⟨rfl, k, rfl⟩)
      go_loopw [17] (fun i wr => ∃ p q : Nat, p ≤ 2 ∧ i = .int .i64 (3 + (p : Int)) ∧ wr = (w.alloc (.cells #[.int .i64 106, .int .i64 124] 3)).drewN q) (fun i _ => 9 - (intOf i).toNat)
      case atStart => exact ⟨0, _, by omega, rfl, rfl⟩
      case round =>
        obtain ⟨p, q, hp, rfl, rfl⟩ := hrel
        obtain rfl | rfl | rfl : p = 0 ∨ p = 1 ∨ p = 2 := by omega
        · rcases rs.out with ⟨hz, e1, e2⟩ | ⟨hz, e1, e2⟩ | ⟨hz, e1, e2, e3⟩
          all_goals clear rs ru
          · have hz2 : (U b == 0) = true := by simp [hz]
            clear hz
            have g1 : pt 127 a b = 2 := e1
            have g2 : pt 129 a b = 2 := e2
            clear e1 e2
            go_wp2_with (go_at_call 16; refine (do_pw _ _ _ _).mono ?_; rintro e w' ⟨rfl, k, rfl⟩)
            go_roundw
            case rel => exact ⟨1, _, by omega, rfl, rfl⟩
            case measure => simp [intOf]
          · have hz2 : (U b == 0) = false := by simp [hz]
            clear hz
            have g1 : pt 127 a b = 3 := e1
            have g2 : pt 129 a b = 0 := e2
            clear e1 e2
            go_wp2_with (go_at_call 16; refine (do_pw _ _ _ _).mono ?_; rintro e w' ⟨rfl, k, rfl⟩)
            go_roundw
            case rel => exact ⟨1, _, by omega, rfl, rfl⟩
            case measure => simp [intOf]
          · have hz2 : (U b == 0) = false := by simp [hz]
            clear hz
            have g1 : pt 127 a b = 0 := e1
            have g2 : pt 129 a b = 0 := e2
            have g3 : pw 124 (pw 126 (pw 127 a b) b) (pw 129 a b) = a := e3
            clear e1 e2 e3
            go_wp2_with (go_at_call 16; refine (do_pw _ _ _ _).mono ?_; rintro e w' ⟨rfl, k, rfl⟩)
            go_roundw
            case rel => exact ⟨1, _, by omega, rfl, rfl⟩
            case measure => simp [intOf]
        · rcases ru.out with ⟨hz, e1, e2⟩ | ⟨hz, e1, e2⟩ | ⟨hz, e1, e2, e3⟩
          all_goals clear rs ru
          · have hz2 : (U b == 0) = true := by simp [hz]
            clear hz
            have g1 : pt 128 a b = 2 := e1
            have g2 : pt 130 a b = 2 := e2
            clear e1 e2
            go_wp2_with (go_at_call 16; refine (do_pw _ _ _ _).mono ?_; rintro e w' ⟨rfl, k, rfl⟩)
            go_roundw
            case rel => exact ⟨2, _, by omega, rfl, rfl⟩
            case measure => simp [intOf]
          · have hz2 : (U b == 0) = false := by simp [hz]
            clear hz
            have g1 : pt 128 a b = 3 := e1
            have g2 : pt 130 a b = 0 := e2
            clear e1 e2
            go_wp2_with (go_at_call 16; refine (do_pw _ _ _ _).mono ?_; rintro e w' ⟨rfl, k, rfl⟩)
            go_roundw
            case rel => exact ⟨2, _, by omega, rfl, rfl⟩
            case measure => simp [intOf]
          · have hz2 : (U b == 0) = false := by simp [hz]
            clear hz
            have g1 : pt 128 a b = 0 := e1
            have g2 : pt 130 a b = 0 := e2
            have g3 : pw 124 (pw 126 (pw 128 a b) b) (pw 130 a b) = a := e3
            clear e1 e2 e3
            go_wp2_with (go_at_call 16; refine (do_pw _ _ _ _).mono ?_; rintro e w' ⟨rfl, k, rfl⟩)
            go_roundw
            case rel => exact ⟨2, _, by omega, rfl, rfl⟩
            case measure => simp [intOf]
        · clear rs ru
          go_wp2
          go_roundw
          case rel => exact ⟨2, _, by omega, rfl, rfl⟩
          case measure => simp [intOf]
    · have o1 := order_s a b
      have o2 := order_u a b
      have hacc : Below w.heap.size w (w.alloc (.cells #[.int .i64 106, .int .i64 124] 3)) := (Below.refl _ _).alloc (Nat.le_refl _) _
      go_wp2_with (first | (go_at_call 16; refine (do_pw _ _ _ _).mono ?_; rintro e w' ⟨rfl, k, rfl⟩) | (go_at_call 14; refine (known_any _).mono ?_; rintro e w' ⟨rfl, hb⟩; replace hacc := below_then (below_drewN hacc _) hb))
      go_ret
      exact ⟨rfl, hacc⟩
end Go.Proofs.Ytjnmcaokcjkagaa
