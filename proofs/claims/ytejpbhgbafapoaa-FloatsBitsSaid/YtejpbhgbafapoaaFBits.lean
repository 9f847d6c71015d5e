/-
  FloatsBits: whatever the two numbers, the statement's function returns true: the walk, and what is true of bits and of conversions.
-/
import Derived.Test.YtejpbhgbafapoaaFOrder
namespace Go.Proofs.Ytejpbhgbafapoaa
open Go.RowKit

/-! ### signs are bits -/
theorem lowbits (a : BitVec 64) : Go.bits .and .u64 (U a) 9223372036854775807 = U (a &&& 9223372036854775807#64) := andU a 9223372036854775807#64
theorem flip_twice (a : BitVec 64) : a ^^^ 9223372036854775808#64 ^^^ 9223372036854775808#64 = a := by
  rw [BitVec.xor_assoc, BitVec.xor_self, BitVec.xor_zero]
theorem put_back (a : BitVec 64) : (a &&& 9223372036854775807#64 &&& 9223372036854775807#64) ||| (a &&& 9223372036854775808#64) = a := by
  rw [BitVec.and_assoc, BitVec.and_self, ← BitVec.and_or_distrib_left]
  rw [show 9223372036854775807#64 ||| 9223372036854775808#64 = BitVec.allOnes 64 by decide, BitVec.and_allOnes]

theorem d153z (a : BitVec 64) (w : World) : Calls Try.prog 7 #[.int .i64 153, .int .u64 (U a), .int .u64 0] w (DoPost (a &&& 9223372036854775807#64) 0 w) := do_sgn 153 (by decide) a 0#64 w
theorem d154z (a : BitVec 64) (w : World) : Calls Try.prog 7 #[.int .i64 154, .int .u64 (U a), .int .u64 0] w (DoPost (a ^^^ 9223372036854775808#64) 0 w) := do_sgn 154 (by decide) a 0#64 w
theorem d166 (a b : BitVec 64) (w : World) : Calls Try.prog 7 #[.int .i64 166, .int .u64 (U a), .int .u64 (U b)] w (DoPost ((a &&& 9223372036854775807#64) ||| (b &&& 9223372036854775808#64)) 0 w) := do_sgn 166 (by decide) a b w

/-! ### there and back -/
/-- The float of a whole number, as a word. -/
def ofW (m : Int) : BitVec 64 := Wq (some (floatOfInt .f64 m))
theorem ofW_nat (m : Int) (h : m.natAbs < 9007199254740992) : tr (ofW m).toNat = m ∧ isNaN (ofW m).toNat = false := by
  have h1 := tr_ofInt m h
  have e : (ofW m).toNat = Ieee.double.nearest (decide (m < 0)) m.natAbs 0 := by
    unfold ofW Wq
    change (BitVec.ofNat 64 (if isNaN (Ieee.double.nearest (decide (m < 0)) m.natAbs 0) = true then 9221120237041090560 else Ieee.double.nearest (decide (m < 0)) m.natAbs 0)).toNat = _
    rw [h1.2]
    simp only [Bool.false_eq_true, if_false]
    rw [BitVec.toNat_ofNat]
    exact Nat.mod_eq_of_lt (Ieee.double.nearest_lt ..)
  rw [e]; exact h1
theorem back_u (x : BitVec 64) (hx : x.toNat < 4294967296) : ttF 1 (ofW (U (cutB x 32))).toNat = 0 ∧ svW (ttF 1 (ofW (U (cutB x 32))).toNat) (tvF 1 (ofW (U (cutB x 32))).toNat) = x := by
  rw [cutB_of_lt x 32 (by decide) hx]
  have hn : (U x).natAbs < 9007199254740992 := by unfold U; omega
  obtain ⟨h1, h2⟩ := ofW_nat (U x) hn
  have hU : U x = (x.toNat : Int) := rfl
  obtain ⟨t1, t2⟩ := t_in 1 _ h2 (by rw [h1]; unfold loF; simp only [show ¬ (1 = 0) by decide, show ¬ (1 = 2) by decide, if_false]; omega) (by rw [h1]; unfold hiF; simp only [show ¬ (1 = 0) by decide, if_false, if_true]; omega)
  rw [t2, t1, h1]
  refine ⟨rfl, ?_⟩
  unfold svW; rw [if_pos rfl]
  apply BitVec.eq_of_toNat_eq
  have hm : maskF 1 = 4294967295#64 := rfl
  have e1 : BitVec.ofInt 64 (U x) = x := by apply BitVec.eq_of_toNat_eq; rw [BitVec.toNat_ofInt, hU]; have := x.isLt; omega
  rw [e1, hm, ← cutB_32, cutB_of_lt x 32 (by decide) hx]
theorem sgn32 (x : BitVec 64) (hx : x.toNat < 4294967296) : S (signSpec x 32) = if x.toNat < 2147483648 then (x.toNat : Int) else (x.toNat : Int) - 4294967296 := by
  rw [signSpec_in x 32 (by decide) (by decide), ← sarS, ← toS, ← shlU]
  have hU : U x = (x.toNat : Int) := rfl
  rw [hU, IntKind.wrap_u64]
  simp only [show (64 - 32 : Int).toNat = 32 by decide, show (2 : Int) ^ 32 = 4294967296 by decide]
  unfold wrap64
  split <;> omega
theorem back_s (x : BitVec 64) (hx : x.toNat < 4294967296) : ttF 0 (ofW (S (signSpec x 32))).toNat = 0 ∧ svW (ttF 0 (ofW (S (signSpec x 32))).toNat) (tvF 0 (ofW (S (signSpec x 32))).toNat) = x := by
  have hs := sgn32 x hx
  have hb : -2147483648 ≤ S (signSpec x 32) ∧ S (signSpec x 32) < 2147483648 := by rw [hs]; split <;> omega
  obtain ⟨h1, h2⟩ := ofW_nat (S (signSpec x 32)) (by omega)
  obtain ⟨t1, t2⟩ := t_in 0 _ h2 (by rw [h1]; unfold loF; rw [if_pos rfl]; omega) (by rw [h1]; unfold hiF; rw [if_pos rfl]; omega)
  rw [t2, t1, h1]
  refine ⟨rfl, ?_⟩
  unfold svW; rw [if_pos rfl]
  have hm : maskF 0 = 4294967295#64 := rfl
  rw [hm, ← cutB_32]
  apply BitVec.eq_of_toNat_eq
  rw [cutB_toNat _ 32 (by decide), BitVec.toNat_ofInt, hs]
  simp only [show 2 ^ 32 = 4294967296 by decide]
  split <;> omega

theorem d184z (a : BitVec 64) (w : World) : Calls Try.prog 7 #[.int .i64 184, .int .u64 (U a), .int .u64 0] w (DoPost (ofW (U (cutB a 32))) 0 w) := by
  have h := do_from 184 (by decide) a 0#64 w
  rw [show fromF 184 a = U (cutB a 32) by simp [fromF]] at h
  exact h
theorem d183z (a : BitVec 64) (w : World) : Calls Try.prog 7 #[.int .i64 183, .int .u64 (U a), .int .u64 0] w (DoPost (ofW (S (signSpec a 32))) 0 w) := by
  have h := do_from 183 (by decide) a 0#64 w
  rw [show fromF 183 a = S (signSpec a 32) by simp [fromF]] at h
  exact h
theorem d170z (a : BitVec 64) (w : World) : Calls Try.prog 7 #[.int .i64 170, .int .u64 (U a), .int .u64 0] w (DoPost (svW (ttF 0 a.toNat) (tvF 0 a.toNat)) (ttF 0 a.toNat) w) := do_170 a 0#64 w
theorem d171z (a : BitVec 64) (w : World) : Calls Try.prog 7 #[.int .i64 171, .int .u64 (U a), .int .u64 0] w (DoPost (svW (ttF 1 a.toNat) (tvF 1 a.toNat)) (ttF 1 a.toNat) w) := do_171 a 0#64 w
theorem d176z (a : BitVec 64) (w : World) : Calls Try.prog 7 #[.int .i64 176, .int .u64 (U a), .int .u64 0] w (DoPost (svW (ttF 2 a.toNat) (tvF 2 a.toNat)) (ttF 2 a.toNat) w) := do_176 a 0#64 w
theorem d177z (a : BitVec 64) (w : World) : Calls Try.prog 7 #[.int .i64 177, .int .u64 (U a), .int .u64 0] w (DoPost (svW (ttF 3 a.toNat) (tvF 3 a.toNat)) (ttF 3 a.toNat) w) := do_177 a 0#64 w
theorem d64514z (a : BitVec 64) (w : World) : Calls Try.prog 7 #[.int .i64 64514, .int .u64 (U a), .int .u64 0] w (DoPost (tvF 0 a.toNat) 0 w) := do_64514 a 0#64 w
theorem d64515z (a : BitVec 64) (w : World) : Calls Try.prog 7 #[.int .i64 64515, .int .u64 (U a), .int .u64 0] w (DoPost (tvF 1 a.toNat) 0 w) := do_64515 a 0#64 w
theorem d64518z (a : BitVec 64) (w : World) : Calls Try.prog 7 #[.int .i64 64518, .int .u64 (U a), .int .u64 0] w (DoPost (tvF 2 a.toNat) 0 w) := do_64518 a 0#64 w
theorem d64519z (a : BitVec 64) (w : World) : Calls Try.prog 7 #[.int .i64 64519, .int .u64 (U a), .int .u64 0] w (DoPost (tvF 3 a.toNat) 0 w) := do_64519 a 0#64 w

/-- The three ways of a number that is cut off: it fits, it does not, it is none. -/
theorem three (k : Nat) (a : BitVec 64) :
    (ttF k a.toNat = 0 ∧ svW (ttF k a.toNat) (tvF k a.toNat) = tvF k a.toNat) ∨ (ttF k a.toNat = 3) ∨ (ttF k a.toNat = 4 ∧ tvF k a.toNat = 0#64 ∧ isNaN a.toNat = true) := by
  cases hn : isNaN a.toNat with
  | true => exact .inr (.inr ⟨(t_nan k _ hn).2, (t_nan k _ hn).1, rfl⟩)
  | false =>
    by_cases h1 : tr a.toNat < loF k
    · exact .inr (.inl (t_lo k _ hn h1).2)
    · by_cases h2 : hiF k ≤ tr a.toNat
      · exact .inr (.inl (t_hi k _ hn h1 h2).2)
      · have h := (t_in k _ hn h1 h2).2
        exact .inl ⟨h, by rw [h]; rfl⟩

/-- What the walk asks of floats.Do: the answer to each of its calls, by plain names. -/
abbrev Gives (op : Int) (p q r : BitVec 64) (t : Int) : Prop := ∀ w, Calls Try.prog 7 #[.int .i64 op, .int .u64 (U p), .int .u64 (U q)] w (DoPost r t w)
abbrev Gives0 (op : Int) (p r : BitVec 64) (t : Int) : Prop := ∀ w, Calls Try.prog 7 #[.int .i64 op, .int .u64 (U p), .int .u64 0] w (DoPost r t w)
def Way (v u : BitVec 64) (t : Int) (na : Bool) : Prop := (t = 0 ∧ v = u) ∨ t = 3 ∨ (t = 4 ∧ u = 0#64 ∧ na = true)

set_option maxRecDepth 100000 in
set_option maxHeartbeats 1600000 in
theorem bits_walk (a x A N F H v0 v1 v2 v3 u0 u1 u2 u3 : BitVec 64) (t0 t1 t2 t3 : Int)
    (r1 : Go.bits .and .u64 (U a) 9223372036854775807 = U A) (r2 : Go.bits .xor .u64 (U a) 9223372036854775808 = U N) (r5 : IntKind.u64.wrap (U x) = U x)
    (c1 : Gives0 153 a A 0) (c2 : Gives0 154 a N 0) (c3 : Gives0 154 N a 0) (c4 : Gives 166 A a a 0)
    (c5 : Gives0 184 x F 0) (c6 : Gives0 171 F x 0) (c7 : Gives0 183 x H 0) (c8 : Gives0 170 H x 0)
    (e0 : Gives0 170 a v0 t0) (e1 : Gives0 171 a v1 t1) (e2 : Gives0 176 a v2 t2) (e3 : Gives0 177 a v3 t3)
    (f0 : Gives0 64514 a u0 0) (f1 : Gives0 64515 a u1 0) (f2 : Gives0 64518 a u2 0) (f3 : Gives0 64519 a u3 0)
    (y0 : Way v0 u0 t0 (isNaN a.toNat)) (y1 : Way v1 u1 t1 (isNaN a.toNat)) (y2 : Way v2 u2 t2 (isNaN a.toNat)) (y3 : Way v3 u3 t3 (isNaN a.toNat)) (w : World) :
    Calls Try.prog 4 #[.int .u64 (U a), .int .u32 (U x)] w (BoolPost true w) := by
  have C1 := Lib.hid c1
  have C2 := Lib.hid c2
  have C3 := Lib.hid c3
  have C4 := Lib.hid c4
  have C5 := Lib.hid c5
  have C6 := Lib.hid c6
  have C7 := Lib.hid c7
  have C8 := Lib.hid c8
  have E0 := Lib.hid e0
  have E1 := Lib.hid e1
  have E2 := Lib.hid e2
  have E3 := Lib.hid e3
  have F0 := Lib.hid f0
  have F1 := Lib.hid f1
  have F2 := Lib.hid f2
  have F3 := Lib.hid f3
  have Y0 := Lib.hid y0
  have Y1 := Lib.hid y1
  have Y2 := Lib.hid y2
  have Y3 := Lib.hid y3
  clear c1 c2 c3 c4 c5 c6 c7 c8 e0 e1 e2 e3 f0 f1 f2 f3 y0 y1 y2 y3
  go_enter Try.func4, Try.ntmps4
  go_wp2_with (go_at_call 7; (first | (with_reducible refine (C1.out _).mono ?_) | (with_reducible refine (C2.out _).mono ?_) | (with_reducible refine (C3.out _).mono ?_) | (with_reducible refine (C4.out _).mono ?_) | (with_reducible refine (C5.out _).mono ?_) | (with_reducible refine (C6.out _).mono ?_) | (with_reducible refine (C7.out _).mono ?_) | (with_reducible refine (C8.out _).mono ?_)); rintro e w' ⟨rfl, k, rfl⟩)
  go_loopw [110] (fun i wr => ∃ j K : Nat, j ≤ 4 ∧ i = .int .i64 (j : Int) ∧ Below (w.heap.size + 1) ((w.drewN K).alloc (.cells #[.int .i64 170, .int .i64 171, .int .i64 176, .int .i64 177] 3)) wr) (fun i _ => 4 - (intOf i).toNat)
  case atStart => exact ⟨0, _, by omega, rfl, Below.refl _ _⟩
  case round =>
    obtain ⟨j, K, hj, rfl, hb⟩ := hrel
    have hsz : w.heap.size + 1 ≤ wr.heap.size := by have := hb.size; simpa using this
    have hcell : ∀ q v, (#[Value.int .i64 170, .int .i64 171, .int .i64 176, .int .i64 177] : Array Value)[q]? = some v → wr.cell? ⟨w.heap.size, q, none⟩ = some v := by
      intro q v hq
      rw [hb.cell (p := ⟨w.heap.size, q, none⟩) (by simp), ← hq]
      exact World.cell?_alloc_new (w.drewN K) _ _ q
    obtain rfl | rfl | rfl | rfl | rfl : j = 0 ∨ j = 1 ∨ j = 2 ∨ j = 3 ∨ j = 4 := by omega
    · have h0 := hcell 0 (.int .i64 170) rfl
      have hn : ∀ K, ((wr.drewN K).alloc (.cells #[.int .i64 64514, .int .i64 64515, .int .i64 64518, .int .i64 64519] 3)).cell? ⟨wr.heap.size, 0, none⟩ = some (.int .i64 64514) := fun K => World.cell?_alloc_new (wr.drewN K) _ _ 0
      have l0 : U 0#64 = 0 := rfl
      rcases Y0.out with ⟨rfl, rfl⟩ | rfl | ⟨rfl, rfl, na⟩ <;>
      · clear hcell
        have HB := Lib.hid hb
        clear hb
        go_wp2_with (first | (go_at_call 7; (first | (with_reducible refine (E0.out _).mono ?_) | (with_reducible refine (F0.out _).mono ?_)); rintro e w' ⟨rfl, k, rfl⟩) | (go_at_call 8; refine (nan_any _ _).mono ?_; rintro e w' ⟨rfl, rfl⟩))
        all_goals
          go_roundw
          case rel => exact ⟨1, K, by omega, rfl, below_drewN ((below_drewN HB.out _).alloc hsz _) _⟩
          case measure => simp [intOf]
    · have h1 := hcell 1 (.int .i64 171) rfl
      have hn : ∀ K, ((wr.drewN K).alloc (.cells #[.int .i64 64514, .int .i64 64515, .int .i64 64518, .int .i64 64519] 3)).cell? ⟨wr.heap.size, 1, none⟩ = some (.int .i64 64515) := fun K => World.cell?_alloc_new (wr.drewN K) _ _ 1
      have l0 : U 0#64 = 0 := rfl
      rcases Y1.out with ⟨rfl, rfl⟩ | rfl | ⟨rfl, rfl, na⟩ <;>
      · clear hcell
        have HB := Lib.hid hb
        clear hb
        go_wp2_with (first | (go_at_call 7; (first | (with_reducible refine (E1.out _).mono ?_) | (with_reducible refine (F1.out _).mono ?_)); rintro e w' ⟨rfl, k, rfl⟩) | (go_at_call 8; refine (nan_any _ _).mono ?_; rintro e w' ⟨rfl, rfl⟩))
        all_goals
          go_roundw
          case rel => exact ⟨2, K, by omega, rfl, below_drewN ((below_drewN HB.out _).alloc hsz _) _⟩
          case measure => simp [intOf]
    · have h2 := hcell 2 (.int .i64 176) rfl
      have hn : ∀ K, ((wr.drewN K).alloc (.cells #[.int .i64 64514, .int .i64 64515, .int .i64 64518, .int .i64 64519] 3)).cell? ⟨wr.heap.size, 2, none⟩ = some (.int .i64 64518) := fun K => World.cell?_alloc_new (wr.drewN K) _ _ 2
      have l0 : U 0#64 = 0 := rfl
      rcases Y2.out with ⟨rfl, rfl⟩ | rfl | ⟨rfl, rfl, na⟩ <;>
      · clear hcell
        have HB := Lib.hid hb
        clear hb
        go_wp2_with (first | (go_at_call 7; (first | (with_reducible refine (E2.out _).mono ?_) | (with_reducible refine (F2.out _).mono ?_)); rintro e w' ⟨rfl, k, rfl⟩) | (go_at_call 8; refine (nan_any _ _).mono ?_; rintro e w' ⟨rfl, rfl⟩))
        all_goals
          go_roundw
          case rel => exact ⟨3, K, by omega, rfl, below_drewN ((below_drewN HB.out _).alloc hsz _) _⟩
          case measure => simp [intOf]
    · have h3 := hcell 3 (.int .i64 177) rfl
      have hn : ∀ K, ((wr.drewN K).alloc (.cells #[.int .i64 64514, .int .i64 64515, .int .i64 64518, .int .i64 64519] 3)).cell? ⟨wr.heap.size, 3, none⟩ = some (.int .i64 64519) := fun K => World.cell?_alloc_new (wr.drewN K) _ _ 3
      have l0 : U 0#64 = 0 := rfl
      rcases Y3.out with ⟨rfl, rfl⟩ | rfl | ⟨rfl, rfl, na⟩ <;>
      · clear hcell
        have HB := Lib.hid hb
        clear hb
        go_wp2_with (first | (go_at_call 7; (first | (with_reducible refine (E3.out _).mono ?_) | (with_reducible refine (F3.out _).mono ?_)); rintro e w' ⟨rfl, k, rfl⟩) | (go_at_call 8; refine (nan_any _ _).mono ?_; rintro e w' ⟨rfl, rfl⟩))
        all_goals
          go_roundw
          case rel => exact ⟨4, K, by omega, rfl, below_drewN ((below_drewN HB.out _).alloc hsz _) _⟩
          case measure => simp [intOf]
    · have hacc : Below w.heap.size w wr := ((below_drewN (Below.refl w.heap.size w) K).alloc (Nat.le_refl _) _).trans (hb.mono (by omega))
      clear hcell hb
      go_wp2_with (go_at_call 9; refine (known_any _).mono ?_; rintro e w' ⟨rfl, hb⟩; replace hacc := below_then hacc hb)
      go_ret
      exact ⟨rfl, hacc⟩

theorem bits_any (a x : BitVec 64) (hx : x.toNat < 4294967296) (w : World) :
    Calls Try.prog 4 #[.int .u64 (U a), .int .u32 (U x)] w (BoolPost true w) := by
  obtain ⟨g1, g2⟩ := back_u x hx
  obtain ⟨g3, g4⟩ := back_s x hx
  refine bits_walk a x (a &&& 9223372036854775807#64) (a ^^^ 9223372036854775808#64) (ofW (U (cutB x 32))) (ofW (S (signSpec x 32)))
    (svW (ttF 0 a.toNat) (tvF 0 a.toNat)) (svW (ttF 1 a.toNat) (tvF 1 a.toNat)) (svW (ttF 2 a.toNat) (tvF 2 a.toNat)) (svW (ttF 3 a.toNat) (tvF 3 a.toNat))
    (tvF 0 a.toNat) (tvF 1 a.toNat) (tvF 2 a.toNat) (tvF 3 a.toNat) (ttF 0 a.toNat) (ttF 1 a.toNat) (ttF 2 a.toNat) (ttF 3 a.toNat)
    (lowbits a) (flipU a) (wrapU x) (d153z a) (d154z a) ?_ ?_ (d184z x) ?_ (d183z x) ?_ (d170z a) (d171z a) (d176z a) (d177z a) (d64514z a) (d64515z a) (d64518z a) (d64519z a)
    (three 0 a) (three 1 a) (three 2 a) (three 3 a) w
  · intro w1
    have h := d154z (a ^^^ 9223372036854775808#64) w1
    rw [flip_twice] at h
    exact h
  · intro w1
    have h := d166 (a &&& 9223372036854775807#64) a w1
    rw [put_back] at h
    exact h
  · intro w1
    have h := d171z (ofW (U (cutB x 32))) w1
    rw [g2, g1] at h
    exact h
  · intro w1
    have h := d170z (ofW (S (signSpec x 32))) w1
    rw [g4, g3] at h
    exact h
end Go.Proofs.Ytejpbhgbafapoaa
