/-
  The statement that memories are as the document says, for any calls: its walk.
-/
import Derived.Test.YtljhdibnnaepdaaPgy
namespace Go.Proofs.Ytljhdibnnaepdaa
open Go.RowKit

set_option maxHeartbeats 2000000 in
set_option maxRecDepth 100000 in
theorem play_no (a b : Int) (h : a < 0 ∨ b < a ∨ 512 < b) (v : Value) (N : Nat) (near : Bool) (w : World) (hv : AsksIn w v N) :
    Calls Try.prog 7 #[.int .i64 a, .int .i64 b, v, .bool near] w (BoolPost true w) := by
  obtain ⟨A, c, rfl, hN, hc⟩ := hv
  have CA := Lib.hid fun w => new_no a b h w
  have CB := Lib.hid fun w => rnew_no a b h w
  clear hc h
  go_enter Try.func7, Try.ntmps7
  go_wp2_with fail
  go_at_call 10
  refine (CA.out w).mono ?_
  rintro e w1 ⟨rfl, rfl⟩
  go_wp2_with fail
  go_at_call 10
  refine (new_11 w).mono ?_
  rintro e w2 ⟨pO, BO, rfl, o1, o2, go, h2⟩
  go_wp2_with fail
  go_at_call 17
  refine (CB.out w2).mono ?_
  rintro e w3 ⟨rfl, rfl⟩
  go_wp2_with fail
  go_at_call 17
  refine (rnew_11 w2).mono ?_
  rintro e w4 ⟨pX, BX, rfl, x1, x2, gx, h4⟩
  have hcv := conv_other w4
  have hbo : w.heap.size ≤ BO := o2
  have hbx : w.heap.size ≤ BX := Nat.le_trans h2.size x2
  have H4 := Lib.hid (below_then h2 h4)
  have nox : pX ≠ BO ∧ BX ≠ BO := by have := go.ltB; omega
  have GO := Lib.hid ((go.next (but_of h4 []) (by simp) (by simp)).next (but_of (below_pmark w4 otherT) []) (by simp) (by simp))
  have GX := Lib.hid (gx.next (but_of (below_pmark w4 otherT) []) (by simp) (by simp))
  have H5 := Lib.hid (below_then H4.out (below_pmark w4 otherT))
  have HBO := Lib.hid hbo
  have HBX := Lib.hid hbx
  have NOX := Lib.hid nox
  clear o1 o2 go h2 x1 x2 gx h4 hbo hbx nox
  go_wp2_with fail
  go_at_call 11
  refine (put_other GO.out).mono ?_
  rintro e w6 ⟨rfl, hb6, g6⟩
  have hcv2 := conv_other w6
  have H6 := Lib.hid (own_step H5.out hb6 (by intro k hk; simp at hk; subst hk; exact HBO.out))
  have GX6 := Lib.hid ((GX.out.next hb6 (by simpa using NOX.out.1) (by simpa using NOX.out.2)).next (but_of (below_pmark w6 otherT) []) (by simp) (by simp))
  have H7 := Lib.hid (below_then H6.out (below_pmark w6 otherT))
  clear hcv hb6 g6
  go_wp2_with fail
  go_at_call 18
  refine (rput_other GX6.out).mono ?_
  rintro e w8 ⟨rfl, hb8, g8⟩
  have H8 := Lib.hid (own_step H7.out hb8 (by intro k hk; simp at hk; subst hk; exact HBX.out))
  clear hcv2 hb8 g8
  go_wp2_with fail
  go_loop [13] (fun vi => vi = .int .i64 0) (fun vi => (intOf vi).toNat)
  case atStart => rfl
  case round =>
    subst hrel
    have hways : decide (0 < N) = false ∨ decide (0 < N) = true := by cases decide (0 < N) <;> simp
    rcases hways with hd | hd
    all_goals
      go_upto_region 18 with fail
      go_quiet (fail)
      go_wp2
      go_ret
      exact ⟨rfl, below_drewN H8.out _⟩
theorem play_any (a b : Int) (v : Value) (N : Nat) (near : Bool) (w : World) (hv : AsksIn w v N) :
    Calls Try.prog 7 #[.int .i64 a, .int .i64 b, v, .bool near] w (BoolPost true w) := by
  by_cases h : a < 0 ∨ b < a ∨ 512 < b
  · exact play_no a b h v N near w hv
  · obtain ⟨k, rfl⟩ : ∃ k : Nat, a = k := ⟨a.toNat, by omega⟩
    obtain ⟨m, rfl⟩ : ∃ m : Nat, b = m := ⟨b.toNat, by omega⟩
    exact play_yes k m (by omega) (by omega) v N near w hv
theorem inside_0_2 (n : Int) (w : World) : Calls Try.prog 9 #[.int .i64 n, .int .i64 0, .int .i64 2] w (InsideP 0 2 w) := inside_any n 0 2 (by decide) (by decide) w
theorem inside_2_4 (n : Int) (w : World) : Calls Try.prog 9 #[.int .i64 n, .int .i64 2, .int .i64 4] w (InsideP 2 4 w) := inside_any n 2 4 (by decide) (by decide) w
theorem asks_none (w : World) : AsksIn w (.slice none 0 0) 0 := ⟨none, 0, rfl, by decide, fun h => absurd h (by decide)⟩
set_option maxRecDepth 10000 in
theorem pplays_walk (a b : Int) (v : Value) (N : Nat) (w : World) (hv : AsksIn w v N) :
    Calls Try.prog 4 #[.int .i64 a, .int .i64 b, v] w (BoolPost true w) := by
  have HV := Lib.hid hv
  obtain ⟨A, c, rfl, _, _⟩ := hv
  go_enter Try.func4, Try.ntmps4
  go_wp2_with fail
  go_at_call 9
  refine (inside_0_2 a w).mono ?_
  rintro e w1 ⟨⟨r1, _, _, rfl⟩, rfl⟩
  go_wp2_with fail
  go_at_call 9
  refine (inside_2_4 b w).mono ?_
  rintro e w1 ⟨⟨r2, _, _, rfl⟩, rfl⟩
  go_wp2_with fail
  go_at_call 7
  refine (play_any _ _ _ N true w HV.out).mono ?_
  rintro e w1 ⟨rfl, h1⟩
  go_wp2_with fail
  go_at_call 7
  refine (play_any 1 2 _ N false w1 (below_asks HV.out h1)).mono ?_
  rintro e w2 ⟨rfl, h2⟩
  replace h2 := below_then h1 h2
  go_wp2_with fail
  go_at_call 7
  refine (play_any a b _ 0 false w2 (asks_none w2)).mono ?_
  rintro e w3 ⟨rfl, h3⟩
  replace h3 := below_then h2 h3
  go_wp2_with fail
  go_at_call 8
  refine (pknown_any w3).mono ?_
  rintro e w4 ⟨rfl, h4⟩
  replace h4 := below_then h3 h4
  go_wp2
  go_ret
  exact ⟨rfl, h4⟩
end Go.Proofs.Ytljhdibnnaepdaa
